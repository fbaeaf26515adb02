/- LUn TFg SXk SXa HNa HBs HPn -/
import Derived.Test.YtaphmhbmhcahaaaGreatTk
import Derived.Test.YtaphmhbmhcahaaaGreatSo27
import Derived.Test.YtaphmhbmhcahaaaGreatSo18
import Derived.Test.YtaphmhbmhcahaaaGreatSo26
import Derived.Test.YtaphmhbmhcahaaaGreatSo22
import Derived.Test.YtaphmhbmhcahaaaGreatSo17
import Derived.Test.YtaphmhbmhcahaaaGreatSo00
import Derived.Deep.CutRange
import Derived.Test.YtaphmhbmhcahaaaGreatSo19
import Derived.Test.YtaphmhbmhcahaaaGreatSo12
set_option maxRecDepth 100000
set_option maxHeartbeats 4000000
namespace Go.Proofs.YtaphmhbmhcahaaaGreat.K
open Go.RowKit Go.Lib
attribute [local go_sem ↓] ld28_eq st28_eq
attribute [local go_sem] zero_EC cells_EV EC_size fold_EC
def UnionOf (A B R:List En) (er:Int):Prop:=(¬ (chk A=0/\chk B=0)/\R=[]/\er=1)∨((chk A=0/\chk B=0)/\Settled (A++B) R er)
def GivesU (w w':World) (e:Ending) (A B:List En):Prop:=∃ ao n c R er,e = .returned (.tuple #[.slice ao n c,.int .i64 er])/\ESrc w' ao n c R/\Below w.heap.size w w'/\UnionOf A B R er
def GivesUN (w w':World) (e:Ending) (A B:List En):Prop:=∃ ao n c R er,e = .returned (.tuple #[.slice ao n c,.int .i64 er])/\ESrc w' ao n c R/\Below w.heap.size w w'/\(∀ ad,ao=some ad -> w.heap.size <= ad.block)/\UnionOf A B R er
theorem unionBad {w w':World} {A B:List En} (h:¬ (chk A=0/\chk B=0)) (hb:Below w.heap.size w w'):GivesUN w w' (.returned (.tuple #[.slice none 0 0,.int .i64 1])) A B:=
 ⟨none,0,0,[],1,rfl,ESrc.none _,hb,fun ad h=>(by cases h),Or.inl ⟨h,rfl,rfl⟩⟩
theorem unionN_any (ao bo:Option Addr) (n cap m cap':Nat) (A B:List En) (w:World) (hS:ESrc w ao n cap A) (hR:ESrc w bo m cap' B) :
  Calls Tryz.prog 68 #[.slice ao n cap,.slice bo m cap'] w fun e w'=>GivesUN w w' e A B:=by
 have HS:=hide hS;have HR:=hide hR;clear hS hR;obtain ⟨p,Hp⟩:∃ p,Hid (chk A=p):=⟨_,rfl⟩;obtain ⟨q,Hq⟩:∃ q,Hid (chk B=q):=⟨_,rfl⟩;by_cases h1:p=0
 ·by_cases h2:q=0
  ·have HA:Hid (chk A=0/\chk B=0):=⟨Hp.out.trans h1,Hq.out.trans h2⟩
   have d1:(p != 0)=false:=by simpa using h1
   have d2:(q != 0)=false:=by simpa using h2
   have hlen:n+m <= 3518437208883:=by
    have l1:=chk_len HA.out.1;have l2:=chk_len HA.out.2;rw [HS.out.1] at l1;rw [HR.out.1] at l2;omega
   clear h1 h2;go_enter Tryz.func68,Tryz.ntmps68;go_wp2_with fail;refine (lcheck_any ao n cap A _ HS.out).mono ?_;rintro e w1 ⟨rfl,b1⟩;rw [Hp.out];have HB1:=hide b1;clear b1;go_wp2_with fail;refine (lcheck_any bo m cap' B _ (HR.out.below HB1.out)).mono ?_;rintro e w2 ⟨rfl,b2⟩;rw [Hq.out];have HB2:=wTr HB1 b2;clear b2;go_wp2_with fail;have B3:=below_new w2 (.cells #[.slice ao n cap,.slice bo m cap'] 22)
   have k0:(w2.alloc (.cells #[.slice ao n cap,.slice bo m cap'] 22)).cell? ⟨w2.heap.size,0,none⟩=some (.slice ao n cap):=by simp
   have k1:(w2.alloc (.cells #[.slice ao n cap,.slice bo m cap'] 22)).cell? ⟨w2.heap.size,1,none⟩=some (.slice bo m cap'):=by simp
   have HB3:=wTr HB2 B3;refine (concat_any w2.heap.size ao bo n cap m cap' A B _ (HS.out.below HB3.out) (HR.out.below HB3.out) k0 k1 hlen).mono ?_;rintro e w4 ⟨a4,c4,rfl,O4⟩;have HO4:=hide O4;have HB4:=wTr HB3 O4.below;have HZ:Hid (w.heap.size <= (w2.alloc (.cells #[.slice ao n cap,.slice bo m cap'] 22)).heap.size):=HB3.out.size
   have hsk:∀ e∈A++B,e.sku.size <= maxLen:=fun e he=>by
    rcases List.mem_append.1 he with h | h
    ·exact HS.out.2.2.2.1 e h
    ·exact HR.out.2.2.2.1 e h
   have HSK:=hide hsk
   have HLL:Hid ((A++B).length=n+m):=by show _=_;rw [List.length_append,HS.out.1,HR.out.1]
   clear O4 B3 k0 k1 hsk
   cases a4 with
   | none =>
    obtain ⟨S4,_⟩:=HO4.out.src HSK.out (by rw [HLL.out];exact hlen);obtain ⟨e1,rfl⟩:=S4.2.1 rfl;have HE:Hid (A++B=[]):=List.eq_nil_of_length_eq_zero e1
    have hnm:n+m=0:=by rw [<- HLL.out];exact e1
    rw [hnm];clear S4 e1;go_wp2_with fail;refine (rising0 none 0 _).mono ?_;rintro e w6 ⟨rfl,b6⟩;have HN:Hid (GivesUN w w6 (.returned (.tuple #[.slice none 0 0,.int .i64 0])) A B):=⟨none,0,0,[],0,rfl,ESrc.none _,HB4.out.trans (b6.mono HB4.out.size),fun ad h=>(by cases h),Or.inr ⟨HA.out,by rw [HE.out];exact settled_nil⟩⟩;clear b6;go_wp2_with fail;go_ret2;exact HN.out
   | some a4 =>
    obtain ⟨M4,hc1,hc2,hbb⟩:=HO4.out.mr;have HM4:=hide M4
    have HC1:Hid (n+m <= c4):=by show _ <= _;rw [<- HLL.out];exact hc1
    have HC2:=hide hc2;have HBB:Hid (w.heap.size <= a4.block):=Nat.le_trans HZ.out hbb;clear M4 hc1 hc2 hbb;go_wp2_with fail;refine (rising_any a4 c4 (n+m) (A++B).toArray _ HM4.out (by rw [List.size_toArray];exact HLL.out) hlen HC1.out HC2.out (by simpa using HSK.out)).mono ?_;rintro e w6 ⟨a6,n6,c6,R6,er,rfl,S6,b6,f6,t6⟩
    have HN:Hid (GivesUN w w6 (.returned (.tuple #[.slice a6 n6 c6,.int .i64 er])) A B):=
     ⟨a6,n6,c6,R6,er,rfl,S6,HB4.out.trans (b6.mono HBB.out),fun ad h=>Nat.le_trans HBB.out (f6 ad h),Or.inr ⟨HA.out,by simpa using t6⟩⟩
    clear S6 b6 f6 t6;go_wp2_with fail;go_ret2;exact HN.out
  ·have HX:Hid (¬ (chk A=0/\chk B=0)):=fun h=>h2 (Hq.out.symm.trans h.2)
   have d1:(p != 0)=false:=by simpa using h1
   have d2:(q != 0)=true:=by simpa using h2
   clear h1 h2;go_enter Tryz.func68,Tryz.ntmps68;go_wp2_with fail;refine (lcheck_any ao n cap A _ HS.out).mono ?_;rintro e w1 ⟨rfl,b1⟩;rw [Hp.out];have HB1:=hide b1;clear b1;go_wp2_with fail;refine (lcheck_any bo m cap' B _ (HR.out.below HB1.out)).mono ?_;rintro e w2 ⟨rfl,b2⟩;rw [Hq.out];have HB2:=wTr HB1 b2;clear b2;go_wp2_with fail;go_ret2;exact unionBad HX.out HB2.out
 ·have HX:Hid (¬ (chk A=0/\chk B=0)):=fun h=>h1 (Hp.out.symm.trans h.1)
  have d1:(p != 0)=true:=by simpa using h1
  clear h1;go_enter Tryz.func68,Tryz.ntmps68;go_wp2_with fail;refine (lcheck_any ao n cap A _ HS.out).mono ?_;rintro e w1 ⟨rfl,b1⟩;rw [Hp.out];have HB1:=hide b1;clear b1;go_wp2_with fail;go_ret2;exact unionBad HX.out HB1.out
theorem union_any (ao bo:Option Addr) (n cap m cap':Nat) (A B:List En) (w:World) (hS:ESrc w ao n cap A) (hR:ESrc w bo m cap' B) :
  Calls Tryz.prog 68 #[.slice ao n cap,.slice bo m cap'] w fun e w'=>GivesU w w' e A B:=by
 refine (unionN_any ao bo n cap m cap' A B w hS hR).mono ?_;rintro e w' ⟨a,n,c,R,er,h1,h2,h3,-,h4⟩;exact ⟨a,n,c,R,er,h1,h2,h3,h4⟩
end Go.Proofs.YtaphmhbmhcahaaaGreat.K
namespace Go.Proofs.YtaphmhbmhcahaaaGreat
section
open Go.RowKit
structure FcN (N:Nat) (f:Fc):Prop where
 a:∀ ad,f.ao=some ad -> N <= ad.block
 p:PNew N f.p
 r:∀ ad,f.ro=some ad -> N <= ad.block
 q:∀ c∈f.rs,PNew N c.p
def FcR (f:Fc):Prop:=f.rn <= f.rc/\(f.ro=none -> f.rc=0)
theorem FcOk.row {w:World} {f:Fc} (h:FcOk w f) (hr:FcR f):RcT w f.ro f.rn f.rc f.rs:=⟨h.rs,hr.1,hr.2⟩
def fz0:Fc:=⟨none,0,0,[],pv0,none,0,0,[]⟩
theorem fz0_ok (w:World):FcOk w fz0:=⟨⟨rfl,fun _=>⟨rfl,rfl⟩,fun ad h=>(by cases h),fun e he=>(by cases he),Nat.zero_le _⟩,PSrc.zero w,RcS.empty w⟩
theorem fz0_row:FcR fz0:=⟨Nat.le_refl _,fun _=>rfl⟩
theorem zero_FaZ:(#[.slice none 0 0,.slice none 0 0,.slice none 0 0,.slice none 0 0]:Array Value)=FaC (mkF fz0):=rfl
def bldF (a:Array (Nat × Value)):Sem Value:=Instr.build 59 a
def FcD (w w':World) (e:Ending) (D:Fc -> Int -> Prop):Prop:=∃ f er,e = .returned (.tuple #[FaV (mkF f),.int .i64 er])/\FcOk w' f/\FcR f/\FcN w.heap.size f/\Below w.heap.size w w'/\D f er
theorem canon_wt2 {P Q:Pst} (hP:InForm P) (hQ:InForm Q):(1+P.cloud.length)+((1+Q.cloud.length)+0) <= 8796093022207:=by
 have h1:=(canon_len (canon_iff.2 hP:CanonOf (runsAt P) P)).1;have h2:=(canon_len (canon_iff.2 hQ:CanonOf (runsAt Q) Q)).1;omega
def JnOf (c:Int) (f g h:Fc) (er:Int):Prop:=(¬ (FormF f/\FormF g)/\er=1/\h=fz0)∨(FormF f/\FormF g/\∃ R e,K.UnionOf f.es g.es R e/\((e≠0/\er=(if c=0 then e else c)/\h=fz0)∨(e=0/\er=0/\h.es=R/\CanonOf (runsOf [f.p,g.p]) h.p.P/\UnOf f.rs g.rs h.rs/\h.rn <= f.rn+g.rn)))
theorem bsP2_wt {p q:Pv} (hP:InForm p.P) (hQ:InForm q.P):wt [p,q] <= 8796093022207:=canon_wt2 hP hQ
def bsPs (a:Array (Nat × Value)):Sem Value:=Instr.buildSlice 99 2 a
theorem bsPs_eq (a:Array (Nat × Value)):Instr.buildSlice 99 2 a=bsPs a:=rfl
theorem run_bsPs (p q:Pv) (w:World):(bsPs #[(0,.agg (PC p)),(1,.agg (PC q))]).run Tryz.prog w = .ok (.slice (some ⟨w.heap.size,0,none⟩) 2 2) (w.alloc (.cells #[.slice p.vo p.vn p.vc,.slice p.co p.cn p.cc,.slice q.vo q.vn q.vc,.slice q.co q.cn q.cc] 26)):=by kernel_rfl
theorem prow2 (w:World) (p q:Pv) (hp:PSrc w p) (hq:PSrc w q):PRow (w.alloc (.cells #[.slice p.vo p.vn p.vc,.slice p.co p.cn p.cc,.slice q.vo q.vn q.vc,.slice q.co q.cn q.cc] 26)) (some ⟨w.heap.size,0,none⟩) 2 [p,q]:=by
 refine prow_lit _ w.heap.size [p,q] _ rfl 26 2 rfl (heap_alloc_new w _) (fun x hx=>?_);rcases List.mem_cons.1 hx with rfl | hx
 ·exact hp.below (below_new w _)
 ·obtain rfl:=List.mem_singleton.1 hx;exact hq.below (below_new w _)
end
section
open Go.RowKit
variable {w w' : World} {g : Nat}
def SwBox (w:World) (g:Nat) (m:FacV):Prop:=w.heap[g]? = some (.cells (FaC m) 29 (0,0))
theorem SwBox.lt {m:FacV} (h:SwBox w g m):g < w.heap.size:=(Array.getElem?_eq_some_iff.1 h).1
theorem SwBox.below {m:FacV} (h:SwBox w g m) (hb:Below w.heap.size w w'):SwBox w' g m:=(hb.block g h.lt).trans h
theorem SwBox.c0 {m:FacV} (h:SwBox w g m):w.cell? ⟨g,0,none⟩=some (.slice m.addso m.addsn m.addsc):=by unfold SwBox at h;simp [World.cell?,h,FaC]
theorem SwBox.c1 {m:FacV} (h:SwBox w g m):w.cell? ⟨g,1,none⟩=some (.slice m.veco m.vecn m.vecc):=by unfold SwBox at h;simp [World.cell?,h,FaC]
theorem SwBox.c2 {m:FacV} (h:SwBox w g m):w.cell? ⟨g,2,none⟩=some (.slice m.cloudo m.cloudn m.cloudc):=by unfold SwBox at h;simp [World.cell?,h,FaC]
theorem SwBox.c3 {m:FacV} (h:SwBox w g m):w.cell? ⟨g,3,none⟩=some (.slice m.recso m.recsn m.recsc):=by unfold SwBox at h;simp [World.cell?,h,FaC]
theorem SwBox_new (w:World) (m:FacV):SwBox (w.alloc (.cells (FaC m) 29)) w.heap.size m:=by unfold SwBox;rw [heap_alloc_new]
def ldSw (v:Value):Sem Value:=Instr.loadAt 29 v
theorem ldSw_eq (v:Value):Instr.loadAt 29 v=ldSw v:=rfl
def stSw (p v:Value):Sem Unit:=Instr.storeAt 29 p v
theorem stSw_eq (p v:Value):Instr.storeAt 29 p v=stSw p v:=rfl
theorem sizeSw:(Tryz.prog.info? 29).map (·.size)=some 4:=by kernel_rfl
theorem SwBox.range {m:FacV} (h:SwBox w g m):w.rangeAt g 0 (FaC m).toList:=by
 intro j v hv;rw [Nat.zero_add];unfold SwBox at h;simp only [Array.getElem?_toList] at hv;simp [World.cell?,h,hv]
theorem run_lvSw {m:FacV} (A:SwBox w g m):(loadVar 29 ⟨g,0,none⟩).run Tryz.prog w = .ok (FaV m) w:=by
 have:=run_loadVar_mid (P:=Tryz.prog) w g 0 29 (FaC m).toList _ A.range Tryz.underlying29 rfl (by rw [sizeSw];rfl);simpa using this
theorem run_ldSw {m:FacV} (A:SwBox w g m):(ldSw (.pointer (some ⟨g,0,none⟩))).run Tryz.prog w = .ok (.agg (FaC m)) w:=by
 unfold ldSw;simp only [Instr.loadAt,Instr.sureAddr,Sem.run_bind,Sem.run_pure,Result.andThen];exact run_lvSw A
theorem run_stSw {m m':FacV} (A:SwBox w g m):(stSw (.pointer (some ⟨g,0,none⟩)) (.agg (FaC m'))).run Tryz.prog w = .ok () (w.setRow g (FaC m')):=by
 unfold stSw;have h:=run_storeCells_from (P:=Tryz.prog) g 29 (FaC m').toList 0 (FaC m) w A (by simp [FaC]) (FaC_one m')
 cases hq:Tryz.prog.info? 29 with
 | none=>have:=sizeSw;simp [hq] at this
 | some x =>
  have hs:x.size=4:=by have:=sizeSw;simpa [hq] using this
  simp only [Instr.storeAt,Instr.sureAddr,Sem.run_bind,Sem.run_pure,Result.andThen,storeVar,sizeOf,typeInfo,cells_FaV,FaC_size];simp at h;simp [h,hq,hs]
theorem SwBox.setRow {m m':FacV} (A:SwBox w g m):SwBox (w.setRow g (FaC m')) g m':=setRow_heap w g _ _ _ _ A
theorem res1Sw {m:FacV} {fn:Func} {p:Tmp} (h:fn.results=#[.cell p 29]) {tmps:Array Value} (hp:tmps.getD p undef = .pointer (some ⟨g,0,none⟩)) (A:SwBox w g m) :
  (results fn tmps).run Tryz.prog w = .ok (FaV m) w:=by
 have hl:=run_lvSw A;simp only [results,h];rw [Array.getD_eq_getD_getElem?] at hp;simp [hp,asAddr,hl]
theorem SwBox.cs {w:World} {g:Nat} {f:Fc} (h:SwBox w g (mkF f)):w.cell? ⟨g,0,none⟩=some (.slice f.ao f.an f.ac)/\w.cell? ⟨g,3,none⟩=some (.slice f.ro f.rn f.rc):=⟨h.c0,h.c3⟩
theorem SwBox.past {w:World} {g:Nat} {f:Fc} (h:SwBox w g (mkF f)):PAt w ⟨g,1,none⟩ f.p:=⟨h.c1,h.c2⟩
theorem SwBox.ne {W:World} {g:Nat} {m:FacV} (A:SwBox W g m) {a:Addr} {v:Value} (hc:W.cell? a=some v) (hv:∀ o n c,v ≠ .slice o n c):a.block≠g:=by
 rintro rfl;obtain ⟨b,o,k⟩:=a;unfold SwBox at A;have h:=World.cell?_spot hc;obtain rfl:k=none:=h;simp only [World.cell?,A] at hc;rcases o with _ | _ | _ | _ | o <;> simp [FaC] at hc
 all_goals exact absurd hc.symm (hv _ _ _)
theorem cell_offW {W:World} {g:Nat} {a:Addr} (c:Array Value) (h:a.block≠g):(W.setRow g c).cell? a=W.cell? a:=by
 unfold World.cell?;rw [setRow_other _ _ _ _ h]
theorem esrc_offW {W:World} {g:Nat} {m:FacV} {ao:Option Addr} {n cap:Nat} {L:List K.En} (A:SwBox W g m) (h:K.ESrc W ao n cap L) (c:Array Value):K.ESrc (W.setRow g c) ao n cap L:=by
 refine ⟨h.1,h.2.1,fun ad e t ht=>?_,h.2.2.2⟩;have B:=h.2.2.1 ad e t ht;have hb:(ad.add (t * 4)).block≠g:=A.ne B.c0 (fun _ _ _ h=>by cases h);exact ⟨by rw [cell_offW c hb];exact B.c0,by rw [cell_offW c (by rw [block_add];exact hb)];exact B.c1,by rw [cell_offW c (by rw [block_add];exact hb)];exact B.c2,by rw [cell_offW c (by rw [block_add];exact hb)];exact B.c3⟩
theorem psrc_offW {W:World} {g:Nat} {m:FacV} {p:Pv} (A:SwBox W g m) (h:PSrc W p) (c:Array Value):PSrc (W.setRow g c) p:=by
 refine ⟨⟨h.vec.1,h.vec.2.1,fun ad e t ht=>?_⟩,⟨h.cloud.len,h.cloud.nil,fun ad e t ht=>?_,h.cloud.big,h.cloud.cap⟩,h.big⟩
 ·have B:=h.vec.2.2 ad e t ht;rw [cell_offW c (A.ne B (fun _ _ _ h=>by cases h))];exact B
 ·have B:=h.cloud.cell ad e t ht;have hb:=A.ne B.c0 (fun _ _ _ h=>by cases h);exact ⟨by rw [cell_offW c hb];exact B.c0,by rw [cell_offW c (by rw [block_add];exact hb)];exact B.c1,by rw [cell_offW c (by rw [block_add];exact hb)];exact B.c2⟩
theorem rcs_offW {W:World} {g:Nat} {m:FacV} {ao:Option Addr} {n cap:Nat} {L:List Rc} (A:SwBox W g m) (h:RcS W ao n cap L) (c:Array Value):RcS (W.setRow g c) ao n cap L:=by
 refine ⟨h.len,h.nil,fun ad ha t ht=>?_,fun r hr=>⟨psrc_offW A (h.ok r hr).1 c,(h.ok r hr).2⟩,h.big⟩;have B:=h.at_ ad ha t ht;have hb:=A.ne B.c0 (fun _ _ _ h=>by cases h);exact ⟨by rw [cell_offW c hb];exact B.c0,by rw [cell_offW c (by rw [block_add];exact hb)];exact B.c1,by rw [cell_offW c (by rw [block_add];exact hb)];exact B.c2⟩
theorem FcOk.offW {W:World} {g:Nat} {m:FacV} {f:Fc} (h:FcOk W f) (A:SwBox W g m) (c:Array Value):FcOk (W.setRow g c) f:=⟨esrc_offW A h.es c,psrc_offW A h.p c,rcs_offW A h.rs c⟩
theorem res2Sw {w:World} {g:Nat} {fn:Func} {p q:Tmp} {m:FacV} {v:Value} (h:fn.results=#[.cell p 29,.tmp q]) {tmps:Array Value} (hp:tmps.getD p undef = .pointer (some ⟨g,0,none⟩)) (hq:tmps.getD q undef=v) (A:SwBox w g m) :
  (results fn tmps).run Tryz.prog w = .ok (.tuple #[FaV m,v]) w:=by
 have hl:=run_lvSw A;simp only [results,h];rw [Array.getD_eq_getD_getElem?] at hp hq;simp [hp,hq,asAddr,hl]
def bldS (a:Array (Nat × Value)):Sem Value:=Instr.build 29 a
theorem bldS_eq (a:Array (Nat × Value)):Instr.build 29 a=bldS a:=rfl
theorem run_bldS0 (w:World):(bldS #[]).run Tryz.prog w = .ok (.agg (FaC (mkF fz0))) w:=by kernel_rfl
theorem run_bldS (a b:Option Addr) (n c m d:Nat) (p:Pv) (w:World):(bldS #[(0,.slice a n c),(1,.agg (PC p)),(2,.slice b m d)]).run Tryz.prog w = .ok (.agg (FaC (mkF ⟨a,n,c,[],p,b,m,d,[]⟩))) w:=by kernel_rfl
def SwE (w w':World) (e:Ending) (D:Fc -> Int -> Prop):Prop:=∃ s er,e = .returned (.tuple #[FaV (mkF s),.int .i64 er])/\FcOk w' s/\Below w.heap.size w w'/\D s er
def SwS (w w':World) (e:Ending) (D:Fc -> Prop):Prop:=∃ s,e = .returned (FaV (mkF s))/\FcOk w' s/\Below w.heap.size w w'/\D s
end
section
open Go.RowKit
def sx1:K.En:=⟨0,1,⟨#[65]⟩,5⟩
def sxP:Pst:=⟨[1],[]⟩
def A1D (s:Fc):Prop:=s.es=[sx1]/\s.an=1/\s.p.P=sxP/\s.rs=[]/\s.rn=0/\s.rc=0
def sxC:Array Value:=#[.int .i64 0,.int .i64 1,.string ⟨#[65]⟩,.int .i64 5]
def bsX1 (a:Array (Nat × Value)):Sem Value:=Instr.buildSlice 22 1 a
theorem bsX1_eq (a:Array (Nat × Value)):Instr.buildSlice 22 1 a=bsX1 a:=rfl
theorem run_bsX1 (w:World):(bsX1 #[(0,.agg #[.int .i64 0,.int .i64 1,.string ⟨#[65]⟩,.int .i64 5])]).run Tryz.prog w = .ok (.slice (some ⟨w.heap.size,0,none⟩) 1 1) (w.alloc (.cells sxC 66)):=by kernel_rfl
theorem run_bldS01 (a v:Option Addr) (n c m d:Nat) (w:World):(bldS #[(0,.slice a n c),(1,.agg #[.slice v m d,.slice none 0 0])]).run Tryz.prog w = .ok (.agg #[.slice a n c,.slice v m d,.slice none 0 0,.slice none 0 0]) w:=by kernel_rfl
theorem sxC_src (w:World) (g:Nat) (hg:w.heap.size=g):K.ESrc (w.alloc (.cells sxC 66)) (some ⟨g,0,none⟩) 1 1 [sx1]:=by
 subst hg;refine ⟨rfl,(fun h=>by cases h),fun ad h t ht=>?_,?_,(show (1:Nat) <= 3518437208883 by decide)⟩
 ·obtain rfl:=Option.some.inj h;have h1:=heap_alloc_new w (.cells sxC 66);have ht2:t < 1:=ht;generalize w.alloc (.cells sxC 66)=W at h1 ⊢;generalize w.heap.size=g at h1 ⊢;clear h ht
  obtain rfl:t=0:=by omega
  refine ⟨?_,?_,?_,?_⟩ <;> simp [Addr.add,World.cell?,h1,sxC,sx1]
 ·intro e he;obtain rfl:=List.mem_singleton.1 he;exact (show (1:Nat) <= maxLen by decide)
theorem madeSx (w:World) (m:Fc) (g:Nat) (hg:w.heap.size=g):∃ w':World,(stSw (.pointer (some ⟨g,0,none⟩)) (.agg (FaC (mkF m)))).run Tryz.prog (w.alloc (.cells (FaC (mkF fz0)) 29)) = .ok () w'/\SwBox w' g (mkF m)/\Below w.heap.size w w'/\w'.heap.size=w.heap.size+1:=by
 subst hg;exact ⟨_,run_stSw (SwBox_new w _),(SwBox_new w _).setRow,below_setRow (below_new w _) (Nat.le_refl _),by simp [World.setRow]⟩
attribute [local go_sem ↓] ldP_eq stP_eq ldSw_eq stSw_eq bldS_eq bsX1_eq bldE_eq bldP_eq bldD_eq
attribute [local go_sem] cells_PV PC_size cells_FaV FaC_size zero_FaZ run_bldS01 run_bsX1 run_bldE run_bldD run_bldP1
theorem a1_any (w:World):Calls Tryz.prog 18 #[] w fun e w'=>SwS w w' e A1D:=by
 have b0:=below_new w (.cells (FaC (mkF fz0)) 29);have X0:=SwBox_new w (mkF fz0);obtain ⟨w0,hw0⟩:∃ w0,w.alloc (.cells (FaC (mkF fz0)) 29)=w0:=⟨_,rfl⟩;obtain ⟨G,hG⟩:∃ G,w.heap.size=G:=⟨_,rfl⟩;rw [hw0] at b0 X0;rw [hG] at X0;have HX:=hide X0;have HB:=hide b0;have HGs:Hid (w.heap.size=G):=hG;clear b0 X0;obtain ⟨g4,hg4⟩:∃ g,w0.heap.size=g:=⟨_,rfl⟩;have lb:=run_bsX1 w0;have S4:=sxC_src w0 g4 hg4;have b4:=below_new w0 (.cells sxC 66)
 have z4:(w0.alloc (.cells sxC 66)).heap.size=g4+1:=by simp [hg4]
 obtain ⟨w4,hw4⟩:∃ w4,w0.alloc (.cells sxC 66)=w4:=⟨_,rfl⟩;rw [hw4] at lb S4 b4 z4;rw [hg4] at lb;have V5:=vsrc_lit w4 3 #[.int .i64 1] [1] rfl (g4+1) 1 z4 rfl;have b5:=below_new w4 (.cells #[.int .i64 1] 3);obtain ⟨w5,hw5⟩:∃ w5,w4.alloc (.cells #[.int .i64 1] 3)=w5:=⟨_,rfl⟩;rw [hw5] at V5 b5;have A5:=(HX.out.below b4).below b5;have HB5:=hide (HB.out.trans ((b4.trans (b5.mono b4.size)).mono HB.out.size));have HF5:FcOk w5 ⟨some ⟨g4,0,none⟩,1,1,[sx1],⟨some ⟨g4+1,0,none⟩,1,1,none,0,0,sxP⟩,none,0,0,[]⟩:=⟨S4.below b5,⟨V5,SSrc.empty _,(show (1:Nat) <= 17592186044415 by decide)⟩,RcS.empty _⟩;have HE1:Hid (SwBox (w5.setRow G (FaC (mkF ⟨some ⟨g4,0,none⟩,1,1,[sx1],⟨some ⟨g4+1,0,none⟩,1,1,none,0,0,sxP⟩,none,0,0,[]⟩))) G (mkF ⟨some ⟨g4,0,none⟩,1,1,[sx1],⟨some ⟨g4+1,0,none⟩,1,1,none,0,0,sxP⟩,none,0,0,[]⟩)):=A5.setRow
 have HE:Hid (SwS w (w5.setRow G (FaC (mkF ⟨some ⟨g4,0,none⟩,1,1,[sx1],⟨some ⟨g4+1,0,none⟩,1,1,none,0,0,sxP⟩,none,0,0,[]⟩))) (.returned (FaV (mkF ⟨some ⟨g4,0,none⟩,1,1,[sx1],⟨some ⟨g4+1,0,none⟩,1,1,none,0,0,sxP⟩,none,0,0,[]⟩))) A1D):=⟨_,rfl,HF5.offW A5 _,below_setRow HB5.out (by rw [HGs.out];exact Nat.le_refl _),rfl,rfl,rfl,rfl,rfl,rfl⟩;have stz:=run_stSw (m':=mkF ⟨some ⟨g4,0,none⟩,1,1,[sx1],⟨some ⟨g4+1,0,none⟩,1,1,none,0,0,sxP⟩,none,0,0,[]⟩) A5;replace stz:(stSw (.pointer (some ⟨G,0,none⟩)) (.agg #[.slice (some ⟨g4,0,none⟩) 1 1,.slice (some ⟨g4+1,0,none⟩) 1 1,.slice none 0 0,.slice none 0 0])).run Tryz.prog w5 = .ok () (w5.setRow G (FaC (mkF ⟨some ⟨g4,0,none⟩,1,1,[sx1],⟨some ⟨g4+1,0,none⟩,1,1,none,0,0,sxP⟩,none,0,0,[]⟩))):=stz;clear S4 b4 V5 b5 A5 HF5;go_enter Tryz.func18,Tryz.ntmps18
 go_wp2_with fail;refine bodyPost_ret (res1Sw rfl rfl HE1.out) rfl ?_;exact HE.out
end
section
open Go.RowKit

theorem SBox.sn {w:World} {g:Nat} {s:Sn} (h:SBox w g s):SnAt w ⟨g,0,none⟩ s:=⟨h.at.1,by rw [Addr.add_lit];exact h.at.2.1,by rw [Addr.add_lit];exact h.at.2.2⟩
theorem nrS_any (s t:Sn) (w:World):Calls Tryz.prog 171 #[SV s,SV t] w fun e w'=>e = .returned (.int .i64 (nrC s ⟨t.rep,t.hi⟩))/\Below w.heap.size w w':=by
 have b1:=below_new w (.cells (SC s) 122);have x1:=sbox_new w s;have s1:=World.size_alloc w (.cells (SC s) 122);obtain ⟨w1,hw1⟩:∃ w1,w.alloc (.cells (SC s) 122)=w1:=⟨_,rfl⟩;obtain ⟨g1,hg1⟩:∃ g1,w.heap.size=g1:=⟨_,rfl⟩;rw [hw1] at b1 x1 s1;rw [hg1] at x1 s1;have b2:=below_new w1 (.cells (SC t) 122);have x2:=sbox_new w1 t;obtain ⟨w2,hw2⟩:∃ w2,w1.alloc (.cells (SC t) 122)=w2:=⟨_,rfl⟩;rw [hw2] at b2 x2;rw [s1] at x2;have HB:=hide (b1.trans (b2.mono b1.size));have HX:Hid (SBox w2 g1 s/\SBox w2 (g1+1) t):=⟨x1.below b2,x2⟩
 have HSt:Hid (∀ W,Below w2.heap.size w2 W -> W.cell? ⟨g1,0,none⟩=some (.int .i64 s.rep)/\W.cell? ⟨g1,2,none⟩=some (.int .i64 s.hi)/\W.cell? ⟨g1+1,0,none⟩=some (.int .i64 t.rep)/\W.cell? ⟨g1+1,2,none⟩=some (.int .i64 t.hi)):=fun W hW=>by
  obtain ⟨c0,-,c2⟩:=(HX.out.1.below hW).at
  have hd:=(HX.out.2.below hW).at
  exact ⟨c0,c2,hd.1,hd.2.2⟩
 obtain ⟨p,Hp⟩:∃ p,Hid (cmpI s.rep t.rep=p):=⟨_,rfl⟩;obtain ⟨q,Hq⟩:∃ q,Hid (cmpI s.hi t.hi=q):=⟨_,rfl⟩
 have HR:Hid (nrC s ⟨t.rep,t.hi⟩=or2 p q):=by show _=_;unfold nrC;rw [Hp.out,Hq.out]
 clear b1 b2 x1 x2;go_enter Tryz.func171,Tryz.ntmps171;go_wp2_with fail;clear hw1 hw2 s1 hg1;refine wp_region_held_drew (S:=fun W=>W.cell? ⟨g1,0,none⟩=some (.int .i64 s.rep)/\W.cell? ⟨g1,2,none⟩=some (.int .i64 s.hi)/\W.cell? ⟨g1+1,0,none⟩=some (.int .i64 t.rep)/\W.cell? ⟨g1+1,2,none⟩=some (.int .i64 t.hi)) (by kernel_rfl) (HSt.out _ (below_drew1 w2)) (fun hHeld=>?_);refine wU 0 ?_;refine wU 1 ?_;refine wU 2 ?_;refine wU 3 ?_;refine wU 5 ?_;refine wU 6 ?_;refine wU 7 ?_;refine wU 8 ?_;refine wpAnyH_ready (rs:=[4]) (by kernel_rfl) (by simp) (.cons rfl (fun K hK=>?_) .nil);go_simp;go_wp2_with fail;refine (cmp_any s.rep t.rep _).mono ?_;rintro e w' ⟨rfl,rfl⟩;rw [Hp.out];refine hK.out _ _ (HSt.out _ (below_drew1 w2)) (fun hHeld=>?_);clear hK K;refine wpAnyH_ready (rs:=[9]) (by kernel_rfl) (by simp) (.cons rfl (fun K hK=>?_) .nil);go_simp
 go_wp2_with fail;refine (cmp_any s.hi t.hi _).mono ?_;rintro e w' ⟨rfl,rfl⟩;rw [Hq.out];refine hK.out _ _ (HSt.out _ (below_drew1 w2)) (fun hHeld=>?_);clear hK K;have HB3:=hide ((below_drew1 w2).trans (below_new w2.drew (.cells #[.int .i64 p,.int .i64 q] 3)));have HO:=hide (or2_new p q w2.drew w2.heap.size rfl);refine wpAnyH_ready (rs:=[10]) (by kernel_rfl) (by simp) (.cons rfl (fun K hK=>?_) .nil);go_simp;refine hK.out _ _ (HSt.out _ HB3.out) (fun hHeld=>?_);clear hK K;refine wpAnyH_ready (rs:=[11]) (by kernel_rfl) (by simp) (.cons rfl (fun K hK=>?_) .nil);go_simp;go_wp2_with fail;refine HO.out.mono ?_;rintro e w' ⟨rfl,rfl⟩;refine hK.out _ _ (HSt.out _ HB3.out) (fun hHeld=>?_);clear hK K;refine wU 12 ?_;refine wpAnyH_done (by kernel_rfl) ?_ _;clear hHeld;go_wp2_with fail;go_ret;exact ⟨ret_int HR.out.symm,HB.out.trans (HB3.out.mono HB.out.size)⟩
end
section
open Go.RowKit
attribute [local go_sem ↓] ldS_eq stS_eq ldD_eq stD_eq
attribute [local go_sem] zero_SC cells_SV SC_size
variable {w w' w2 W W' : World} {g : Nat}

theorem bsS_any (ao:Option Addr) (n cap:Nat) (L:List Sn) (t:Sn) (w:World) (hS:SSrc w ao n cap L) (hm:∀ a b,a <= b -> b < n -> nrC (L.getD b sn0) ⟨t.rep,t.hi⟩ < 0 -> nrC (L.getD a sn0) ⟨t.rep,t.hi⟩ < 0) :
  Calls Tryz.prog 170 #[.slice ao n cap,SV t,.func (.func 171) #[] #[]] w fun e w'=>BsA w w' e L ⟨t.rep,t.hi⟩ n:=by
 have hcf:∀ (args:Array Value) (w:World),(callFunc 171 args).run Tryz.prog w = .ok (.enter 171 args) w:=fun _ _=>rfl;have b1:=below_new w (.cells (SC t) 122);have x1:=sbox_new w t;obtain ⟨w1,hw1⟩:∃ w1,w.alloc (.cells (SC t) 122)=w1:=⟨_,rfl⟩;obtain ⟨g1,hg1⟩:∃ g1,w.heap.size=g1:=⟨_,rfl⟩;rw [hw1] at b1 x1;rw [hg1] at x1;have HB1:=hide b1;have HX:Hid (SBox w1 g1 t/\SSrc w1 ao n cap L):=⟨x1,hS.below b1⟩;have hnb:n <= 5864062014805:=hS.big;have HM:=hide hm;clear b1 x1 hS hm;go_enter Tryz.func170,Tryz.ntmps170;go_wp2_with fail;clear hw1 hg1;go_loopw [9,10] (fun a b wr=>∃ (lo hi:Nat),a = .int .i64 (lo:Int)/\b = .int .i64 (hi:Int)/\lo <= hi/\hi <= n/\Hid (Below w1.heap.size w1 wr/\(∀ j,j < lo -> nrC (L.getD j sn0) ⟨t.rep,t.hi⟩ < 0)/\(hi < n -> 0 <= nrC (L.getD hi sn0) ⟨t.rep,t.hi⟩))) (fun a b _=>(intOf b).toNat - (intOf a).toNat)
 case atStart=>exact ⟨0,n,rfl,rfl,Nat.zero_le _,Nat.le_refl _,Below.refl _ _,(fun j hj=>by omega),fun h=>by omega⟩
 case round =>
  obtain ⟨lo,hi,rfl,rfl,hlh,hhn,HI⟩:=hrel
  rename World=>wr
  by_cases hlt:lo < hi
  ·have hlti:(lo:Int) < (hi:Int):=by omega
   obtain ⟨h,hh⟩:∃ h:Nat,(lo+hi) / 2=h:=⟨_,rfl⟩
   have hlb:lo <= 5864062014805:=by omega
   have hhb:hi <= 5864062014805:=by omega
   obtain ⟨u,ht⟩:∃ u:Nat,lo+hi=u:=⟨_,rfl⟩
   have et:(lo:Int)+(hi:Int)=(u:Int):=by omega
   have e2:(u:Int) / 2=(h:Int):=by omega
   have e3:u / 2=h:=by omega
   have HH:Hid (lo <= h/\h < hi/\h < n):=⟨by omega,by omega,by omega⟩
   have htb:u <= 20000000000000:=by omega
   obtain ⟨ad,rfl,A0⟩:=(HX.out.2.below HI.out.1).at h HH.out.2.2;obtain ⟨s,Hs⟩:∃ s,Hid (L.getD h sn0=s):=⟨_,rfl⟩
   have HSt:Hid (∀ W,Below wr.heap.size wr W -> (ldS (.pointer (some (ad.add (h * 3))))).run Tryz.prog W = .ok (SV s) W/\(ldS (.pointer (some ⟨g1,0,none⟩))).run Tryz.prog W = .ok (SV t) W):=fun W hW=>by
    obtain ⟨ad',e',A1⟩:=((HX.out.2.below HI.out.1).below hW).at h HH.out.2.2;obtain rfl:=Option.some.inj e';rw [Hs.out] at A1;exact ⟨run_ldS A1,run_ldS ((HX.out.1.below HI.out.1).below hW).sn⟩
   have hhi:(h:Int) < (n:Int):=by have:=HH.out;omega
   clear A0 hh ht;go_upto_region 5 with fail;clear et e2 e3;refine wp_region_held_drew (S:=fun W=>(ldS (.pointer (some (ad.add (h * 3))))).run Tryz.prog W = .ok (SV s) W/\(ldS (.pointer (some ⟨g1,0,none⟩))).run Tryz.prog W = .ok (SV t) W) (by kernel_rfl) (HSt.out _ (below_drew1 wr)) (fun hHeld=>?_);refine wU 0 ?_;refine wU 1 ?_;refine wU 2 ?_;refine wU 3 ?_;refine wU 4 ?_;refine wU 5 ?_;refine wpAnyH_ready (rs:=[6]) (by kernel_rfl) (by simp) (.cons rfl (fun K hK=>?_) .nil);go_simp;go_wp2_with fail;refine (nrS_any s t _).mono ?_;rintro e w3 ⟨rfl,b3⟩;have hB3:Below wr.heap.size wr w3:=(below_drew1 wr).trans b3;have HB3:=hide (HI.out.1.trans (hB3.mono HI.out.1.size));refine hK.out _ _ (HSt.out _ hB3) (fun hHeld=>?_);clear hK K b3 hB3;obtain ⟨z,hz⟩:∃ z,nrC s ⟨t.rep,t.hi⟩=z:=⟨_,rfl⟩;rw [hz];refine wU 7 ?_;refine wpAnyH_done (by kernel_rfl) ?_ _
   clear hHeld;by_cases hz0:z < 0
   ·have HN:Hid (∀ j,j < h+1 -> nrC (L.getD j sn0) ⟨t.rep,t.hi⟩ < 0):=fun j hj=>HM.out j h (by omega) HH.out.2.2 (by rw [Hs.out,hz];exact hz0);clear hz;go_wp2_with fail;go_roundw
    case rel=>exact ⟨h+1,hi,by simp,rfl,by have:=HH.out;omega,hhn,HB3.out,HN.out,HI.out.2.2⟩
    case measure=>simp [intOf];have:=HH.out;omega
   ·have HN:Hid (h < n -> 0 <= nrC (L.getD h sn0) ⟨t.rep,t.hi⟩):=fun _=>by rw [Hs.out,hz];omega
    clear hz;go_wp2_with fail;go_roundw
    case rel=>exact ⟨lo,h,rfl,rfl,HH.out.1,by have:=HH.out;omega,HB3.out,HI.out.2.1,HN.out⟩
    case measure=>simp [intOf];have:=HH.out;omega
  ·have hlti:¬ (lo:Int) < (hi:Int):=by omega
   obtain rfl:lo=hi:=by omega
   have HF:Hid (FirstAt L ⟨t.rep,t.hi⟩ n lo):=⟨hhn,HI.out.2.1,HI.out.2.2⟩;have HBw:=wTr HB1 HI.out.1;by_cases hln:lo < n
   ·have hlni:(lo:Int) < (n:Int):=by omega
    obtain ⟨ad,rfl,A0⟩:=(HX.out.2.below HI.out.1).at lo hln;obtain ⟨s,Hs⟩:∃ s,Hid (L.getD lo sn0=s):=⟨_,rfl⟩
    have HSt:Hid (∀ W,Below wr.heap.size wr W -> (ldS (.pointer (some (ad.add (lo * 3))))).run Tryz.prog W = .ok (SV s) W/\(ldS (.pointer (some ⟨g1,0,none⟩))).run Tryz.prog W = .ok (SV t) W):=fun W hW=>by
     obtain ⟨ad',e',A1⟩:=((HX.out.2.below HI.out.1).below hW).at lo hln;obtain rfl:=Option.some.inj e';rw [Hs.out] at A1;exact ⟨run_ldS A1,run_ldS ((HX.out.1.below HI.out.1).below hW).sn⟩
    clear A0;go_upto_region 8 with fail;refine wp_region_held_drew (S:=fun W=>(ldS (.pointer (some (ad.add (lo * 3))))).run Tryz.prog W = .ok (SV s) W/\(ldS (.pointer (some ⟨g1,0,none⟩))).run Tryz.prog W = .ok (SV t) W) (by kernel_rfl) (HSt.out _ (below_drew1 wr)) (fun hHeld=>?_);refine wU 0 ?_;refine wU 1 ?_;refine wU 2 ?_;refine wU 3 ?_;refine wU 4 ?_;refine wU 5 ?_;refine wU 6 ?_;refine wU 7 ?_;refine wU 8 ?_;refine wU 9 ?_;refine wU 10 ?_;refine wpAnyH_ready (rs:=[11]) (by kernel_rfl) (by simp) (.cons rfl (fun K hK=>?_) .nil);go_simp;go_wp2_with fail;refine (nrS_any s t _).mono ?_;rintro e w3 ⟨rfl,b3⟩;have hB3:Below wr.heap.size wr w3:=(below_drew1 wr).trans b3;have HB3:=wTr HBw hB3;refine hK.out _ _ (HSt.out _ hB3) (fun hHeld=>?_);clear hK K b3 hB3;obtain ⟨z,hz⟩:∃ z,nrC s ⟨t.rep,t.hi⟩=z:=⟨_,rfl⟩;rw [hz];clear hz;refine wU 14 ?_
    refine wU 12 ?_;refine wU 13 ?_;refine wU 15 ?_;refine wpAnyH_done (by kernel_rfl) ?_ _;clear hHeld;go_wp2_with fail;go_ret2;exact ⟨lo,_,rfl,HF.out,HB3.out⟩
   ·have hlni:¬ (lo:Int) < (n:Int):=by omega
    go_upto_region 8 with fail;refine wp_region_held_drew (S:=fun _=>True) (by kernel_rfl) (trivial) (fun hHeld=>?_);refine wU 0 ?_;refine wU 1 ?_;refine wU 2 ?_;refine wU 3 ?_;refine wU 4 ?_;refine wV 5 ?_;refine wV 6 ?_;refine wV 7 ?_;refine wV 8 ?_;refine wV 9 ?_;refine wV 10 ?_;refine wV 11 ?_;refine wV 12 ?_;refine wU 14 ?_;refine wU 13 ?_;refine wU 15 ?_;refine wpAnyH_done (by kernel_rfl) ?_ _;clear hHeld;go_wp2_with fail;go_ret2;exact ⟨lo,_,rfl,HF.out,HBw.out.trans ((below_drew1 wr).mono HBw.out.size)⟩
end
section
open Go.RowKit
theorem chain_mem {Z:List Int}:∀ (L:List Sn) (a:Sn),chain Z a L -> ∀ c∈L,∃ b,StepOk Z b c
 | [],_,_,c,h=>by cases h
 | x :: t,a,h,c,hc=>by
  rcases List.mem_cons.1 hc with rfl | hc
  ·exact ⟨a,h.1⟩
  ·exact chain_mem t x h.2 c hc
def Gp (x y:Sn):Prop:=x.rep < y.rep∨(x.rep=y.rep/\x.hi+2 <= y.lo)
theorem chain_gp {Z:List Int}:∀ (L:List Sn) (a:Sn),chain Z a L -> (∀ y∈L,Gp a y)/\L.Pairwise Gp
 | [],_,_=>⟨fun y h=>(by cases h),List.Pairwise.nil⟩
 | x :: t,a,h=>by
  obtain ⟨h1,h2⟩:=chain_gp t x h.2;have r:=h.1.rep;have o:=h.1.ord;have g:=h.1.gap
  have k:Gp a x:=by
   by_cases e:x.rep=a.rep
   ·exact .inr ⟨e.symm,g e⟩
   ·exact .inl (by omega)
  refine ⟨fun y hy=>?_,List.Pairwise.cons h1 h2⟩;rcases List.mem_cons.1 hy with rfl | hy
  ·exact k
  ·have q:=h1 y hy;unfold Gp at k q ⊢;omega
theorem vec_at {P:Pst} (h:InForm P) (r:Nat) (hr:r < 16):P.vec.getD r 0=V.at' P.vec r:=by
 have:=V.short_getD (V.at' P.vec) r hr;rw [<- h.1] at this;exact this
def spIn (P:Pst) (t:Sn):Prop:=∀ m,t.lo <= m -> m <= t.hi -> mem (runsAt P t.rep.toNat) m
theorem hold_vec {P:Pst} {y:Nat} {lo hi:Int} (hy:y < 16) (h1:1 <= lo) (h3:hi <= 1000000000) (h:hi <= P.vec.getD y 0):spIn P ⟨(y:Int),lo,hi⟩:=fun m h4 h5=>by
 have h4:lo <= m:=h4;have h5:m <= hi:=h5
 show mem (runsAt P (y:Int).toNat) m
 rw [Int.toNat_natCast,mem_runs P y hy];exact ⟨by omega,by omega,.inl (by omega)⟩
theorem hold_iff {P:Pst} (h:InForm P) {n i y:Nat} {lo hi:Int} (hl:P.cloud.length=n) (hy:y < 16) (h1:1 <= lo) (h2:lo <= hi) (h3:hi <= 1000000000) (hF:FirstAt P.cloud ⟨(y:Int),hi⟩ n i) (hv:P.vec.getD y 0 < hi) :
  (i < n/\(P.cloud.getD i sn0).rep=(y:Int)/\(P.cloud.getD i sn0).lo <= lo)↔spIn P ⟨(y:Int),lo,hi⟩:=by
 have key:∀ m,mem (runsAt P y) m↔1 <= m/\m <= 1000000000/\(m <= P.vec.getD y 0∨∃ c,c∈P.cloud/\c.rep=(y:Int)/\c.lo <= m/\m <= c.hi):=fun m=>mem_runs P y hy m;constructor
 ·rintro ⟨k1,k2,k3⟩ m h4 h5;have h4:lo <= m:=h4;have h5:m <= hi:=h5
  show mem (runsAt P (y:Int).toNat) m
  have hn:=hF.2.2 k1;have hneg:=nrC_neg (P.cloud.getD i sn0) ⟨(y:Int),hi⟩
  have hn2:¬ ((P.cloud.getD i sn0).rep < (y:Int)∨((P.cloud.getD i sn0).rep=(y:Int)/\(P.cloud.getD i sn0).hi < hi)):=fun q=>by have:=hneg.2 q;omega
  rw [Int.toNat_natCast,key m];refine ⟨by omega,by omega,.inr ⟨P.cloud.getD i sn0,?_,k2,by omega,by omega⟩⟩;rw [List.getD_eq_getElem?_getD,List.getElem?_eq_getElem (by omega)];exact List.getElem_mem _
 ·intro q
  have q:∀ m,lo <= m -> m <= hi -> mem (runsAt P y) m:=fun m a b=>by have:=q m a b;rwa [show (⟨(y:Int),lo,hi⟩:Sn).rep.toNat=y from Int.toNat_natCast y] at this
  have hd:dotIn P ⟨(y:Int),hi⟩:=by
   rw [dotIn_iff];have:=(key hi).1 (q hi h2 (Int.le_refl _));exact ⟨by show (0:Int) <= (y:Int);omega,by show (y:Int) < 16;omega,this.1,this.2.1,by show hi <= P.vec.getD (y:Int).toNat 0∨_;rw [Int.toNat_natCast];exact this.2.2⟩
  have hd2:=(near_in h hl hF).2 hd;rw [dotIn_iff] at hd2;obtain ⟨-,-,-,-,hd3 | ⟨c,hc,e1,e2,e3⟩⟩:=hd2
  ·have hd3:hi <= P.vec.getD (y:Int).toNat 0:=hd3;rw [Int.toNat_natCast] at hd3;omega
  ·have e1:c.rep=(y:Int):=e1;have e2:c.lo <= hi:=e2;have e3:hi <= c.hi:=e3
   have hin:i < n:=by
    rcases Nat.lt_or_ge i n with q | q
    ·exact q
    ·rw [List.drop_eq_nil_of_le (by omega)] at hc;cases hc
   have hci:c=P.cloud.getD i sn0:=by
    rw [List.drop_eq_getElem_cons (by omega),List.take_succ_cons,List.take_zero] at hc;rw [List.mem_singleton.1 hc,List.getD_eq_getElem?_getD,List.getElem?_eq_getElem (by omega)];rfl
   refine ⟨hin,by rw [<- hci];exact e1,?_⟩;rw [<- hci];rcases Int.lt_or_le lo c.lo with k | k
   ·exfalso;have hm:=(key (c.lo - 1)).1 (q (c.lo - 1) (by omega) (by omega))
    have hcm:c∈P.cloud:=by
     rw [hci,List.getD_eq_getElem?_getD,List.getElem?_eq_getElem (by omega)];exact List.getElem_mem _
    obtain ⟨b,sb⟩:=chain_mem _ _ h.2 c hcm;have hlead:=sb.lead
    have hv2:V.atI P.vec c.rep=P.vec.getD y 0:=by
     rw [e1,vec_at h y hy];unfold V.atI;simp [V.isR];omega
    rw [hv2] at hlead;rcases hm.2.2 with hm3 | ⟨c2,hc2,r1,r2,r3⟩
    ·omega
    ·obtain ⟨-,gp⟩:=chain_gp _ _ h.2;obtain ⟨u,hu,rfl⟩:=List.getElem_of_mem hcm;obtain ⟨v,hv3,rfl⟩:=List.getElem_of_mem hc2;rcases Nat.lt_trichotomy u v with q | q | q
     ·have:=List.pairwise_iff_getElem.1 gp u v hu hv3 q;have o:=(chain_mem _ _ h.2 _ (List.getElem_mem hu)).choose_spec.ord;unfold Gp at this;omega
     ·subst q;omega
     ·have:=List.pairwise_iff_getElem.1 gp v u hv3 hu q;unfold Gp at this;omega
   ·exact k
end
end Go.Proofs.YtaphmhbmhcahaaaGreat
