/- LRis LSor LSo2 LShg LCct LUp LUn TFg SXk HNa -/
import Derived.Test.YtjeilkenjdnafaaGreatTk
import Derived.Test.YtjeilkenjdnafaaGreatDk26
import Derived.Shelf.SlSortCmp.NoneTotal
import Derived.Lib.SliceRun
import Derived.Shelf.Spec.SlicesGrow
import Derived.Test.YtjeilkenjdnafaaGreatProg
import Derived.Laws.AppendOwnNone
import Derived.Deep.LoopGhost
import Derived.Test.YtjeilkenjdnafaaGreatDk16
import Derived.Test.YtjeilkenjdnafaaGreatDk18
import Derived.Test.YtjeilkenjdnafaaGreatDk25
import Derived.Test.YtjeilkenjdnafaaGreatDk21
import Derived.Test.YtjeilkenjdnafaaGreatDk17
import Derived.Test.YtjeilkenjdnafaaGreatDk00
set_option maxRecDepth 100000
set_option maxHeartbeats 1600000
namespace Go.Proofs.YtjeilkenjdnafaaGreat.K
section
open Go.RowKit Go.Lib
attribute [local go_sem ↓] ld28_eq st28_eq ld26_eq run_eqD
attribute [local go_sem] zero_EC cells_EV EC_size
def GivesTB (B:Nat) (w w':World) (e:Ending) (L:List En):Prop:=∃ ao n c R er,e = .returned (.tuple #[.slice ao n c,.int .i64 er])/\ESrc w' ao n c R/\Below B w w'/\(∀ ad,ao=some ad -> B <= ad.block)/\Settled L R er
end
section
open Go.RowKit Go.Lib
attribute [local go_sem ↓] ld28_eq st28_eq
attribute [local go_sem] zero_EC cells_EV EC_size
def firstE:List En -> Int
 | []=>0
 | e :: r=>if ceE e=0 then firstE r else ceE e
def okTo (L:List En) (k:Nat):Prop:=∀ i,i < k -> ceE (L.getD i en0)=0
def Sorted (L R:List En) (er:Int):Prop:=(firstE L≠0/\R=[]/\er=firstE L)∨(firstE L=0/\Settled L R er)
def GivesQ (w w':World) (e:Ending) (L:List En):Prop:=∃ ao n c R er,e = .returned (.tuple #[.slice ao n c,.int .i64 er])/\ESrc w' ao n c R/\Below w.heap.size w w'/\(∀ ad,ao=some ad -> w.heap.size <= ad.block)/\Sorted L R er
theorem ESrc.cells {w:World} {ad:Addr} {n cap:Nat} {L:List En} (hS:ESrc w (some ad) n cap L) (j:Nat) (u:Value) (hj:(ecs L)[j]? = some u):w.cell? (ad.add j)=some u:=by
 have hjl:j < L.length * 4:=by have:=(List.getElem?_eq_some_iff.1 hj).1;rwa [ecs_length] at this
 have e4:=ecs_at L (j / 4) (j % 4) (by omega) (by omega);rw [show j / 4 * 4+j % 4=j by omega,hj] at e4;have A:=hS.2.2.1 ad rfl (j / 4) (by rw [<- hS.1];omega)
 have:j % 4=0∨j % 4=1∨j % 4=2∨j % 4=3:=by omega
 rcases this with h | h | h | h
 ·rw [h] at e4;rw [show j=j / 4 * 4 by omega,A.c0];exact e4.symm
 ·rw [h] at e4;have:=A.c1;rw [add_add] at this;rw [show j=j / 4 * 4+1 by omega,this];exact e4.symm
 ·rw [h] at e4;have:=A.c2;rw [add_add] at this;rw [show j=j / 4 * 4+2 by omega,this];exact e4.symm
 ·rw [h] at e4;have:=A.c3;rw [add_add] at this;rw [show j=j / 4 * 4+3 by omega,this];exact e4.symm
theorem ecs_onecell (L:List En):∀ u∈ecs L,u.oneCell'=true:=by
 intro u hu;obtain ⟨l,hl,hv⟩:=List.mem_flatten.1 hu;obtain ⟨e,_,rfl⟩:=List.mem_map.1 hl;exact EC_one e u hv
theorem clone_any (ad:Addr) (n cap:Nat) (L:List En) (w:World) (hS:ESrc w (some ad) n cap L) :
  Calls Tryz.prog 96 #[.slice (some ad) n cap] w fun e w'=>∃ ao c,e = .returned (.slice ao n c)/\OwnE w.heap.size w.heap.size w w' ao c L:=by
 obtain ⟨i0,hi,hz0,hz1,hz2⟩:=info_parts info28;have q22:∀ w,(binOp .eql 22 (.slice (some ad) n cap) (.slice none 0 0)).run Tryz.prog w = .ok (.bool false) w:=fun w=>Lib.run_eql_slice_nil w _ _ (some ad) n cap 0 0 Tryz.underlying22;have HS:=hide hS;clear hS;go_enter Tryz.func96,Tryz.ntmps96;go_wp2_with (at_builtin;refine wpList_append_own _ rfl _ _ 22 rfl w.heap.size 57 i0 (.agg #[.int .i64 0,.int .i64 0,.string ⟨#[]⟩,.int .i64 0]) 4 40 Tryz.underlying22 hi hz0 hz1 hz2 rfl (by decide) _ _ _ rfl (World.ownsRow_made w #[] 0 (Nat.le_refl _) (Nat.zero_le _) (by simp)) ad n cap (ecs L) rfl ?qc1 ?qc2 ?qc3 ?qc4 ?qc5 ?qc6 ?_)
 case qc1=>rw [ecs_length,HS.out.1]
 case qc2 =>
  intro j u hj;have:=HS.out.cells j u hj;rw [(below_new w _).cell (World.block_lt_of_cell? _ _ this)];exact this
 case qc3=>exact ecs_onecell L
 case qc4=>rw [Nat.zero_add];unfold maxLen;have:=HS.out.2.2.2.2;omega
 case qc5=>rw [Nat.zero_add];have:=HS.out.2.2.2.2;omega
 case qc6=>simp
 intro v' w1 hown hgrow hnil
 have hown':w1.ownsRow w.heap.size 57 4 v' n (ecs L):=by simpa using hown
 have hb:Below w.heap.size w w1:=((Below.refl _ w).alloc (Nat.le_refl _) _).grown hgrow (by simp) (by intro k hk;simp [Value.ownBlock] at hk;omega)
 have HF:Hid (∃ ao c,v' = .slice ao n c/\OwnE w.heap.size w.heap.size w w1 ao c L):=by
  rcases hown'.2 with ⟨h0,_⟩ | ⟨g,c,cur,rfl,r⟩
  ·exact absurd h0 hnil
  ·exact ⟨some ⟨g,0,none⟩,c,rfl,by rw [HS.out.1];exact hown',hb,hb.size,Nat.le_refl _⟩
 clear hown hown' hgrow hnil hb;go_wp2_with fail;go_ret;obtain ⟨ao,c,rfl,h⟩:=HF.out;exact ⟨ao,c,rfl,h⟩
theorem clone_nil (w:World):Calls Tryz.prog 96 #[.slice none 0 0] w fun e w'=>e = .returned (.slice none 0 0)/\w'=w:=by
 have q22:∀ w,(binOp .eql 22 (.slice none 0 0) (.slice none 0 0)).run Tryz.prog w = .ok (.bool true) w:=fun w=>Lib.run_eql_slice_nil w _ _ none 0 0 0 0 Tryz.underlying22;go_enter Tryz.func96,Tryz.ntmps96;go_wp2_with fail;go_ret;exact ⟨rfl,rfl⟩
end
section
open Go.RowKit Go.Lib
attribute [local go_sem ↓] ld28_eq st28_eq
attribute [local go_sem] zero_EC cells_EV EC_size
end
end Go.Proofs.YtjeilkenjdnafaaGreat.K
namespace Go.Proofs
open Go.Shelf
def Tryz.growEn_ren:Go.Shelf.Ren:=⟨fun | 4=>130 | n=>n,fun | 22=>22 | 25=>57 | 3=>3 | 4=>4 | 9=>9 | 20=>20 | 0=>0 | n=>n,fun | n=>n⟩
end Go.Proofs
namespace Go.Proofs.YtjeilkenjdnafaaGreat.K
section
open Go.RowKit Go.Lib

end
section
open Go.RowKit

def code (e:En):Int:=e.rep * 1000000000+e.num
theorem okN_at (L:List En) (n:Nat) (h:okN L n=true) (k:Nat) (hk:k < n):okAt L k=true:=by
 unfold okN at h;exact List.all_eq_true.1 h k (List.mem_range.2 hk)
theorem chk_zero {L:List En} (h:chk L=0):okN L L.length=true:=by
 unfold chk at h;by_cases e:okN L L.length=true
 ·exact e
 ·rw [if_neg e] at h;omega
end
section
open Go.RowKit Go.Lib
attribute [local go_sem ↓] ld28_eq st28_eq
attribute [local go_sem] zero_EC cells_EV EC_size fold_EC
def UnionOf (A B R:List En) (er:Int):Prop:=(¬ (chk A=0/\chk B=0)/\R=[]/\er=1)∨((chk A=0/\chk B=0)/\Settled (A++B) R er)
def GivesU (w w':World) (e:Ending) (A B:List En):Prop:=∃ ao n c R er,e = .returned (.tuple #[.slice ao n c,.int .i64 er])/\ESrc w' ao n c R/\Below w.heap.size w w'/\UnionOf A B R er
def GivesUN (w w':World) (e:Ending) (A B:List En):Prop:=∃ ao n c R er,e = .returned (.tuple #[.slice ao n c,.int .i64 er])/\ESrc w' ao n c R/\Below w.heap.size w w'/\(∀ ad,ao=some ad -> w.heap.size <= ad.block)/\UnionOf A B R er
end
end Go.Proofs.YtjeilkenjdnafaaGreat.K
namespace Go.Proofs.YtjeilkenjdnafaaGreat
section
open Go.RowKit
structure FcN (N:Nat) (f:Fc):Prop where
 a:∀ ad,f.ao=some ad -> N <= ad.block
 p:PNew N f.p
 r:∀ ad,f.ro=some ad -> N <= ad.block
 q:∀ c∈f.rs,PNew N c.p
theorem FcN.mono {N M:Nat} {f:Fc} (h:FcN N f) (hm:M <= N):FcN M f:=⟨fun ad e=>Nat.le_trans hm (h.a ad e),h.p.mono hm,fun ad e=>Nat.le_trans hm (h.r ad e),fun c hc=>(h.q c hc).mono hm⟩
def FcR (f:Fc):Prop:=f.rn <= f.rc/\(f.ro=none -> f.rc=0)
theorem FcOk.row {w:World} {f:Fc} (h:FcOk w f) (hr:FcR f):RcT w f.ro f.rn f.rc f.rs:=⟨h.rs,hr.1,hr.2⟩
theorem res2Fb {w:World} {g:Nat} {fn:Func} {p q:Tmp} {m:FacV} {v:Value} (h:fn.results=#[.cell p 29,.tmp q]) {tmps:Array Value} (hp:tmps.getD p undef = .pointer (some ⟨g,0,none⟩)) (hq:tmps.getD q undef=v) (A:FaBox w g m) :
  (results fn tmps).run Tryz.prog w = .ok (.tuple #[FaV m,v]) w:=by
 have hl:=run_lvFa A;simp only [results,h];rw [Array.getD_eq_getD_getElem?] at hp hq;simp [hp,hq,asAddr,hl]
def fz0:Fc:=⟨none,0,0,[],pv0,none,0,0,[]⟩
theorem fz0_ok (w:World):FcOk w fz0:=⟨⟨rfl,fun _=>⟨rfl,rfl⟩,fun ad h=>(by cases h),fun e he=>(by cases he),Nat.zero_le _⟩,PSrc.zero w,RcS.empty w⟩
theorem fz0_row:FcR fz0:=⟨Nat.le_refl _,fun _=>rfl⟩
theorem zero_FaZ:(#[.slice none 0 0,.slice none 0 0,.slice none 0 0,.slice none 0 0]:Array Value)=FaC (mkF fz0):=rfl
def bldF (a:Array (Nat × Value)):Sem Value:=Instr.build 29 a
theorem bldF_eq (a:Array (Nat × Value)):Instr.build 29 a=bldF a:=rfl
theorem run_bldF0 (w:World):(bldF #[]).run Tryz.prog w = .ok (.agg (FaC (mkF fz0))) w:=by kernel_rfl
theorem run_bldF12 (a b:Option Addr) (n c m d:Nat) (p:Pv) (w:World):(bldF #[(0,.slice a n c),(1,.agg (PC p)),(2,.slice b m d)]).run Tryz.prog w = .ok (.agg #[.slice a n c,.slice p.vo p.vn p.vc,.slice p.co p.cn p.cc,.slice b m d]) w:=by kernel_rfl
def FcD (w w':World) (e:Ending) (D:Fc -> Int -> Prop):Prop:=∃ f er,e = .returned (.tuple #[FaV (mkF f),.int .i64 er])/\FcOk w' f/\FcR f/\FcN w.heap.size f/\Below w.heap.size w w'/\D f er
theorem canon_wt2 {P Q:Pst} (hP:InForm P) (hQ:InForm Q):(1+P.cloud.length)+((1+Q.cloud.length)+0) <= 8796093022207:=by
 have h1:=(canon_len (canon_iff.2 hP:CanonOf (runsAt P) P)).1;have h2:=(canon_len (canon_iff.2 hQ:CanonOf (runsAt Q) Q)).1;omega
def JnOf (c:Int) (f g h:Fc) (er:Int):Prop:=(¬ (FormF f/\FormF g)/\er=1/\h=fz0)∨(FormF f/\FormF g/\∃ R e,K.UnionOf f.es g.es R e/\((e≠0/\er=(if c=0 then e else c)/\h=fz0)∨(e=0/\er=0/\h.es=R/\CanonOf (runsOf [f.p,g.p]) h.p.P/\UnOf f.rs g.rs h.rs/\h.rn <= f.rn+g.rn)))
theorem bsP2_wt {p q:Pv} (hP:InForm p.P) (hQ:InForm q.P):wt [p,q] <= 8796093022207:=canon_wt2 hP hQ
def bsPs (a:Array (Nat × Value)):Sem Value:=Instr.buildSlice 118 2 a
theorem bsPs_eq (a:Array (Nat × Value)):Instr.buildSlice 118 2 a=bsPs a:=rfl
theorem run_bsPs (p q:Pv) (w:World):(bsPs #[(0,.agg (PC p)),(1,.agg (PC q))]).run Tryz.prog w = .ok (.slice (some ⟨w.heap.size,0,none⟩) 2 2) (w.alloc (.cells #[.slice p.vo p.vn p.vc,.slice p.co p.cn p.cc,.slice q.vo q.vn q.vc,.slice q.co q.cn q.cc] 26)):=by kernel_rfl
theorem prow2 (w:World) (p q:Pv) (hp:PSrc w p) (hq:PSrc w q):PRow (w.alloc (.cells #[.slice p.vo p.vn p.vc,.slice p.co p.cn p.cc,.slice q.vo q.vn q.vc,.slice q.co q.cn q.cc] 26)) (some ⟨w.heap.size,0,none⟩) 2 [p,q]:=by
 refine prow_lit _ w.heap.size [p,q] _ rfl 26 2 rfl (heap_alloc_new w _) (fun x hx=>?_);rcases List.mem_cons.1 hx with rfl | hx
 ·exact hp.below (below_new w _)
 ·obtain rfl:=List.mem_singleton.1 hx;exact hq.below (below_new w _)
end
section
open Go.RowKit
variable {w w' : World} {g : Nat}
def SwBox (w:World) (g:Nat) (m:FacV):Prop:=w.heap[g]? = some (.cells (FaC m) 31 (0,0))
theorem SwBox.lt {m:FacV} (h:SwBox w g m):g < w.heap.size:=(Array.getElem?_eq_some_iff.1 h).1
theorem SwBox.below {m:FacV} (h:SwBox w g m) (hb:Below w.heap.size w w'):SwBox w' g m:=(hb.block g h.lt).trans h
theorem SwBox.c0 {m:FacV} (h:SwBox w g m):w.cell? ⟨g,0,none⟩=some (.slice m.addso m.addsn m.addsc):=by unfold SwBox at h;simp [World.cell?,h,FaC]
theorem SwBox.c1 {m:FacV} (h:SwBox w g m):w.cell? ⟨g,1,none⟩=some (.slice m.veco m.vecn m.vecc):=by unfold SwBox at h;simp [World.cell?,h,FaC]
theorem SwBox.c2 {m:FacV} (h:SwBox w g m):w.cell? ⟨g,2,none⟩=some (.slice m.cloudo m.cloudn m.cloudc):=by unfold SwBox at h;simp [World.cell?,h,FaC]
theorem SwBox.c3 {m:FacV} (h:SwBox w g m):w.cell? ⟨g,3,none⟩=some (.slice m.recso m.recsn m.recsc):=by unfold SwBox at h;simp [World.cell?,h,FaC]
theorem SwBox_new (w:World) (m:FacV):SwBox (w.alloc (.cells (FaC m) 31)) w.heap.size m:=by unfold SwBox;rw [heap_alloc_new]
def ldSw (v:Value):Sem Value:=Instr.loadAt 31 v
theorem ldSw_eq (v:Value):Instr.loadAt 31 v=ldSw v:=rfl
def stSw (p v:Value):Sem Unit:=Instr.storeAt 31 p v
theorem stSw_eq (p v:Value):Instr.storeAt 31 p v=stSw p v:=rfl
theorem sizeSw:(Tryz.prog.info? 31).map (·.size)=some 4:=by kernel_rfl
theorem SwBox.range {m:FacV} (h:SwBox w g m):w.rangeAt g 0 (FaC m).toList:=by
 intro j v hv;rw [Nat.zero_add];unfold SwBox at h;simp only [Array.getElem?_toList] at hv;simp [World.cell?,h,hv]
theorem run_lvSw {m:FacV} (A:SwBox w g m):(loadVar 31 ⟨g,0,none⟩).run Tryz.prog w = .ok (FaV m) w:=by
 have:=run_loadVar_mid (P:=Tryz.prog) w g 0 31 (FaC m).toList _ A.range Tryz.underlying31 rfl (by rw [sizeSw];rfl);simpa using this
theorem run_ldSw {m:FacV} (A:SwBox w g m):(ldSw (.pointer (some ⟨g,0,none⟩))).run Tryz.prog w = .ok (.agg (FaC m)) w:=by
 unfold ldSw;simp only [Instr.loadAt,Instr.sureAddr,Sem.run_bind,Sem.run_pure,Result.andThen];exact run_lvSw A
theorem run_stSw {m m':FacV} (A:SwBox w g m):(stSw (.pointer (some ⟨g,0,none⟩)) (.agg (FaC m'))).run Tryz.prog w = .ok () (w.setRow g (FaC m')):=by
 unfold stSw;have h:=run_storeCells_from (P:=Tryz.prog) g 31 (FaC m').toList 0 (FaC m) w A (by simp [FaC]) (FaC_one m')
 cases hq:Tryz.prog.info? 31 with
 | none=>have:=sizeSw;simp [hq] at this
 | some x =>
  have hs:x.size=4:=by have:=sizeSw;simpa [hq] using this
  simp only [Instr.storeAt,Instr.sureAddr,Sem.run_bind,Sem.run_pure,Result.andThen,storeVar,sizeOf,typeInfo,cells_FaV,FaC_size];simp at h;simp [h,hq,hs]
theorem SwBox.setRow {m m':FacV} (A:SwBox w g m):SwBox (w.setRow g (FaC m')) g m':=setRow_heap w g _ _ _ _ A
theorem res1Sw {m:FacV} {fn:Func} {p:Tmp} (h:fn.results=#[.cell p 31]) {tmps:Array Value} (hp:tmps.getD p undef = .pointer (some ⟨g,0,none⟩)) (A:SwBox w g m) :
  (results fn tmps).run Tryz.prog w = .ok (FaV m) w:=by
 have hl:=run_lvSw A;simp only [results,h];rw [Array.getD_eq_getD_getElem?] at hp;simp [hp,asAddr,hl]
theorem SwBox.cs {w:World} {g:Nat} {f:Fc} (h:SwBox w g (mkF f)):w.cell? ⟨g,0,none⟩=some (.slice f.ao f.an f.ac)/\w.cell? ⟨g,3,none⟩=some (.slice f.ro f.rn f.rc):=⟨h.c0,h.c3⟩
theorem SwBox.past {w:World} {g:Nat} {f:Fc} (h:SwBox w g (mkF f)):PAt w ⟨g,1,none⟩ f.p:=⟨h.c1,h.c2⟩
theorem SwBox.ne {W:World} {g:Nat} {m:FacV} (A:SwBox W g m) {a:Addr} {v:Value} (hc:W.cell? a=some v) (hv:∀ o n c,v ≠ .slice o n c):a.block≠g:=by
 rintro rfl;obtain ⟨b,o,k⟩:=a;unfold SwBox at A;have h:=World.cell?_spot hc;obtain rfl:k=none:=h;simp only [World.cell?,A] at hc;rcases o with _ | _ | _ | _ | o <;> simp [FaC] at hc
 all_goals exact absurd hc.symm (hv _ _ _)
theorem cell_offW {W:World} {g:Nat} {a:Addr} (c:Array Value) (h:a.block≠g):(W.setRow g c).cell? a=W.cell? a:=by
 unfold World.cell?;rw [setRow_other _ _ _ _ h]
theorem esrc_offW {W:World} {g:Nat} {m:FacV} {ao:Option Addr} {n cap:Nat} {L:List K.En} (A:SwBox W g m) (h:K.ESrc W ao n cap L) (c:Array Value):K.ESrc (W.setRow g c) ao n cap L:=by
 refine ⟨h.1,h.2.1,fun ad e t ht=>?_,h.2.2.2⟩;have B:=h.2.2.1 ad e t ht;have hb:(ad.add (t * 4)).block≠g:=A.ne B.c0 (fun _ _ _ h=>by cases h);exact ⟨by rw [cell_offW c hb];exact B.c0,by rw [cell_offW c (by rw [block_add];exact hb)];exact B.c1,by rw [cell_offW c (by rw [block_add];exact hb)];exact B.c2,by rw [cell_offW c (by rw [block_add];exact hb)];exact B.c3⟩
theorem psrc_offW {W:World} {g:Nat} {m:FacV} {p:Pv} (A:SwBox W g m) (h:PSrc W p) (c:Array Value):PSrc (W.setRow g c) p:=by
 refine ⟨⟨h.vec.1,h.vec.2.1,fun ad e t ht=>?_⟩,⟨h.cloud.len,h.cloud.nil,fun ad e t ht=>?_,h.cloud.big,h.cloud.cap⟩,h.big⟩
 ·have B:=h.vec.2.2 ad e t ht;rw [cell_offW c (A.ne B (fun _ _ _ h=>by cases h))];exact B
 ·have B:=h.cloud.cell ad e t ht;have hb:=A.ne B.c0 (fun _ _ _ h=>by cases h);exact ⟨by rw [cell_offW c hb];exact B.c0,by rw [cell_offW c (by rw [block_add];exact hb)];exact B.c1,by rw [cell_offW c (by rw [block_add];exact hb)];exact B.c2⟩
theorem rcs_offW {W:World} {g:Nat} {m:FacV} {ao:Option Addr} {n cap:Nat} {L:List Rc} (A:SwBox W g m) (h:RcS W ao n cap L) (c:Array Value):RcS (W.setRow g c) ao n cap L:=by
 refine ⟨h.len,h.nil,fun ad ha t ht=>?_,fun r hr=>⟨psrc_offW A (h.ok r hr).1 c,(h.ok r hr).2⟩,h.big⟩;have B:=h.at_ ad ha t ht;have hb:=A.ne B.c0 (fun _ _ _ h=>by cases h);exact ⟨by rw [cell_offW c hb];exact B.c0,by rw [cell_offW c (by rw [block_add];exact hb)];exact B.c1,by rw [cell_offW c (by rw [block_add];exact hb)];exact B.c2⟩
theorem FcOk.offW {W:World} {g:Nat} {m:FacV} {f:Fc} (h:FcOk W f) (A:SwBox W g m) (c:Array Value):FcOk (W.setRow g c) f:=⟨esrc_offW A h.es c,psrc_offW A h.p c,rcs_offW A h.rs c⟩
theorem res2Sw {w:World} {g:Nat} {fn:Func} {p q:Tmp} {m:FacV} {v:Value} (h:fn.results=#[.cell p 31,.tmp q]) {tmps:Array Value} (hp:tmps.getD p undef = .pointer (some ⟨g,0,none⟩)) (hq:tmps.getD q undef=v) (A:SwBox w g m) :
  (results fn tmps).run Tryz.prog w = .ok (.tuple #[FaV m,v]) w:=by
 have hl:=run_lvSw A;simp only [results,h];rw [Array.getD_eq_getD_getElem?] at hp hq;simp [hp,hq,asAddr,hl]
def bldS (a:Array (Nat × Value)):Sem Value:=Instr.build 31 a
theorem bldS_eq (a:Array (Nat × Value)):Instr.build 31 a=bldS a:=rfl
theorem run_bldS0 (w:World):(bldS #[]).run Tryz.prog w = .ok (.agg (FaC (mkF fz0))) w:=by kernel_rfl
theorem run_bldS (a b:Option Addr) (n c m d:Nat) (p:Pv) (w:World):(bldS #[(0,.slice a n c),(1,.agg (PC p)),(2,.slice b m d)]).run Tryz.prog w = .ok (.agg (FaC (mkF ⟨a,n,c,[],p,b,m,d,[]⟩))) w:=by kernel_rfl
def SwE (w w':World) (e:Ending) (D:Fc -> Int -> Prop):Prop:=∃ s er,e = .returned (.tuple #[FaV (mkF s),.int .i64 er])/\FcOk w' s/\Below w.heap.size w w'/\D s er
def SwS (w w':World) (e:Ending) (D:Fc -> Prop):Prop:=∃ s,e = .returned (FaV (mkF s))/\FcOk w' s/\Below w.heap.size w w'/\D s
end
section
open Go.RowKit

theorem SBox.sn {w:World} {g:Nat} {s:Sn} (h:SBox w g s):SnAt w ⟨g,0,none⟩ s:=⟨h.at.1,by rw [Addr.add_lit];exact h.at.2.1,by rw [Addr.add_lit];exact h.at.2.2⟩
theorem nrS_any (s t:Sn) (w:World):Calls Tryz.prog 144 #[SV s,SV t] w fun e w'=>e = .returned (.int .i64 (nrC s ⟨t.rep,t.hi⟩))/\Below w.heap.size w w':=by
 have b1:=below_new w (.cells (SC s) 65);have x1:=sbox_new w s;have s1:=World.size_alloc w (.cells (SC s) 65);obtain ⟨w1,hw1⟩:∃ w1,w.alloc (.cells (SC s) 65)=w1:=⟨_,rfl⟩;obtain ⟨g1,hg1⟩:∃ g1,w.heap.size=g1:=⟨_,rfl⟩;rw [hw1] at b1 x1 s1;rw [hg1] at x1 s1;have b2:=below_new w1 (.cells (SC t) 65);have x2:=sbox_new w1 t;obtain ⟨w2,hw2⟩:∃ w2,w1.alloc (.cells (SC t) 65)=w2:=⟨_,rfl⟩;rw [hw2] at b2 x2;rw [s1] at x2;have HB:=hide (b1.trans (b2.mono b1.size));have HX:Hid (SBox w2 g1 s/\SBox w2 (g1+1) t):=⟨x1.below b2,x2⟩
 have HSt:Hid (∀ W,Below w2.heap.size w2 W -> W.cell? ⟨g1,0,none⟩=some (.int .i64 s.rep)/\W.cell? ⟨g1,2,none⟩=some (.int .i64 s.hi)/\W.cell? ⟨g1+1,0,none⟩=some (.int .i64 t.rep)/\W.cell? ⟨g1+1,2,none⟩=some (.int .i64 t.hi)):=fun W hW=>by
  obtain ⟨c0,-,c2⟩:=(HX.out.1.below hW).at
  have hd:=(HX.out.2.below hW).at
  exact ⟨c0,c2,hd.1,hd.2.2⟩
 obtain ⟨p,Hp⟩:∃ p,Hid (cmpI s.rep t.rep=p):=⟨_,rfl⟩;obtain ⟨q,Hq⟩:∃ q,Hid (cmpI s.hi t.hi=q):=⟨_,rfl⟩
 have HR:Hid (nrC s ⟨t.rep,t.hi⟩=or2 p q):=by show _=_;unfold nrC;rw [Hp.out,Hq.out]
 clear b1 b2 x1 x2;go_enter Tryz.func144,Tryz.ntmps144;go_wp2_with fail;clear hw1 hw2 s1 hg1;refine wp_region_held_drew (S:=fun W=>W.cell? ⟨g1,0,none⟩=some (.int .i64 s.rep)/\W.cell? ⟨g1,2,none⟩=some (.int .i64 s.hi)/\W.cell? ⟨g1+1,0,none⟩=some (.int .i64 t.rep)/\W.cell? ⟨g1+1,2,none⟩=some (.int .i64 t.hi)) (by kernel_rfl) (HSt.out _ (below_drew1 w2)) (fun hHeld=>?_);refine wU 0 ?_;refine wU 1 ?_;refine wU 2 ?_;refine wU 3 ?_;refine wU 5 ?_;refine wU 6 ?_;refine wU 7 ?_;refine wU 8 ?_;refine wpAnyH_ready (rs:=[4]) (by kernel_rfl) (by simp) (.cons rfl (fun K hK=>?_) .nil);go_simp;go_wp2_with fail;refine (cmp_any s.rep t.rep _).mono ?_;rintro e w' ⟨rfl,rfl⟩;rw [Hp.out];refine hK.out _ _ (HSt.out _ (below_drew1 w2)) (fun hHeld=>?_);clear hK K;refine wpAnyH_ready (rs:=[9]) (by kernel_rfl) (by simp) (.cons rfl (fun K hK=>?_) .nil);go_simp
 go_wp2_with fail;refine (cmp_any s.hi t.hi _).mono ?_;rintro e w' ⟨rfl,rfl⟩;rw [Hq.out];refine hK.out _ _ (HSt.out _ (below_drew1 w2)) (fun hHeld=>?_);clear hK K;have HB3:=hide ((below_drew1 w2).trans (below_new w2.drew (.cells #[.int .i64 p,.int .i64 q] 3)));have HO:=hide (or2_new p q w2.drew w2.heap.size rfl);refine wpAnyH_ready (rs:=[10]) (by kernel_rfl) (by simp) (.cons rfl (fun K hK=>?_) .nil);go_simp;refine hK.out _ _ (HSt.out _ HB3.out) (fun hHeld=>?_);clear hK K;refine wpAnyH_ready (rs:=[11]) (by kernel_rfl) (by simp) (.cons rfl (fun K hK=>?_) .nil);go_simp;go_wp2_with fail;refine HO.out.mono ?_;rintro e w' ⟨rfl,rfl⟩;refine hK.out _ _ (HSt.out _ HB3.out) (fun hHeld=>?_);clear hK K;refine wU 12 ?_;refine wpAnyH_done (by kernel_rfl) ?_ _;clear hHeld;go_wp2_with fail;go_ret;exact ⟨ret_int HR.out.symm,HB.out.trans (HB3.out.mono HB.out.size)⟩
end
end Go.Proofs.YtjeilkenjdnafaaGreat
