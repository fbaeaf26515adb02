/- GBs GRe PRg PTw PBk PBl PCm PCq -/
import Derived.Test.YtjffpimfngdggaaGreatTk
import Derived.Test.YtjffpimfngdggaaGreatFs00
import Derived.Deep.MidRow
import Derived.RegionTactic
import Derived.Test.YtjffpimfngdggaaGreatFs09
import Derived.Test.YtjffpimfngdggaaGreatFs10
import Derived.Test.YtjffpimfngdggaaGreatFs11
import Derived.Test.YtjffpimfngdggaaGreatFs05
set_option maxRecDepth 100000
set_option maxHeartbeats 1600000
namespace Go.Proofs.YtjffpimfngdggaaGreat
section
theorem xF (p:Addr) (m:Nat):(p.add m).block=p.block:=zs p m
theorem vQ (p:Addr):p.add 0=p:=add_zero p
end
section
open Go.RowKit
variable {w w' : World} {g : Nat}
structure RecV where
 sku:ByteArray
 veco:Option Addr
 vecn:Nat
 vecc:Nat
 cloudo:Option Addr
 cloudn:Nat
 cloudc:Nat
def re0:RecV:=⟨⟨#[]⟩,none,0,0,none,0,0⟩
def ReC (m:RecV):Array Value:=#[.string m.sku,.slice m.veco m.vecn m.vecc,.slice m.cloudo m.cloudn m.cloudc]
abbrev ReV (m:RecV):Value:=.agg (ReC m)
theorem zU (m:RecV):(ReC m).size=3:=rfl
theorem ziF (m:RecV):∀ v∈(ReC m).toList,v.oneCell'=true:=by
 intro v hv;simp [ReC] at hv;rcases hv with rfl | rfl | rfl <;> rfl
theorem zI (m:RecV):(ReV m).cells=ReC m:=by simp [Value.cells]
structure ReAt (w:World) (a:Addr) (m:RecV):Prop where
 c0:w.cell? a=some (.string m.sku)
 c1:w.cell? (a.add 1)=some (.slice m.veco m.vecn m.vecc)
 c2:w.cell? (a.add 2)=some (.slice m.cloudo m.cloudn m.cloudc)
theorem ReAt.on {a:Addr} {m:RecV} (S:ReAt w a m) (hb:Below w.heap.size w w'):ReAt w' a m:=by
 have h0:=World.block_lt_of_cell? _ _ S.c0;exact ⟨by rw [hb.cell h0];exact S.c0,by rw [hb.cell (by rw [xF];exact h0)];exact S.c1,by rw [hb.cell (by rw [xF];exact h0)];exact S.c2⟩
def ReBox (w:World) (g:Nat) (m:RecV):Prop:=w.heap[g]? = some (.cells (ReC m) 78 (0,0))
theorem ReBox.lt {m:RecV} (h:ReBox w g m):g < w.heap.size:=(Array.getElem?_eq_some_iff.1 h).1
theorem ReBox.below {m:RecV} (h:ReBox w g m) (hb:Below w.heap.size w w'):ReBox w' g m:=(hb.block g h.lt).trans h
theorem ReBox.c0 {m:RecV} (h:ReBox w g m):w.cell? ⟨g,0,none⟩=some (.string m.sku):=by unfold ReBox at h;simp [World.cell?,h,ReC]
theorem ReBox.c1 {m:RecV} (h:ReBox w g m):w.cell? ⟨g,1,none⟩=some (.slice m.veco m.vecn m.vecc):=by unfold ReBox at h;simp [World.cell?,h,ReC]
theorem ReBox.c2 {m:RecV} (h:ReBox w g m):w.cell? ⟨g,2,none⟩=some (.slice m.cloudo m.cloudn m.cloudc):=by unfold ReBox at h;simp [World.cell?,h,ReC]
theorem qj (w:World) (m:RecV):ReBox (w.alloc (.cells (ReC m) 78)) w.heap.size m:=by unfold ReBox;rw [heap_alloc_new]
def ldRe (v:Value):Sem Value:=Instr.loadAt 78 v
theorem qd (v:Value):Instr.loadAt 78 v=ldRe v:=rfl
def stRe (p v:Value):Sem Unit:=Instr.storeAt 78 p v
theorem zZ (p v:Value):Instr.storeAt 78 p v=stRe p v:=rfl
theorem sizeRe:(Tryz.prog.info? 78).map (·.size)=some 3:=by kernel_rfl
theorem ReBox.range {m:RecV} (h:ReBox w g m):w.rangeAt g 0 (ReC m).toList:=by
 intro j v hv;rw [Nat.zero_add];unfold ReBox at h;simp only [Array.getElem?_toList] at hv;simp [World.cell?,h,hv]
theorem zcD {m:RecV} (A:ReBox w g m):(loadVar 78 ⟨g,0,none⟩).run Tryz.prog w = .ok (ReV m) w:=by
 have:=run_loadVar_mid (P:=Tryz.prog) w g 0 78 (ReC m).toList _ A.range Tryz.underlying78 rfl (by rw [sizeRe];rfl);simpa using this
theorem qH {m:RecV} (A:ReBox w g m):(ldRe (.pointer (some ⟨g,0,none⟩))).run Tryz.prog w = .ok (.agg (ReC m)) w:=by
 unfold ldRe;simp only [Instr.loadAt,Instr.sureAddr,Sem.run_bind,Sem.run_pure,Result.andThen];exact zcD A
theorem zz {a:Addr} {m:RecV} (A:ReAt w a m):(ldRe (.pointer (some a))).run Tryz.prog w = .ok (.agg (ReC m)) w:=by
 have hl:=run_loadCells_list (P:=Tryz.prog) (w:=w) a (ReC m).toList (fun j v hv=>by
  match j,hv with
  | 0,hv=>cases hv;rw [vQ];exact A.c0
  | 1,hv=>cases hv;exact A.c1
  | 2,hv=>cases hv;exact A.c2
  | j+3,hv=>simp [ReC] at hv)
 unfold ldRe;simp only [Instr.loadAt,Instr.sureAddr,Sem.run_bind,Sem.run_pure,Result.andThen]
 cases hq:Tryz.prog.info? 78 with
 | none=>have:=sizeRe;simp [hq] at this
 | some x =>
  have hs:x.size=3:=by have:=sizeRe;simpa [hq] using this
  have hagg:(isAgg 78).run Tryz.prog w = .ok true w:=by
   unfold isAgg;rw [Sem.run_bind,run_underlying Tryz.underlying78 w];rfl
  have e2:(ReC m).toList.length=3:=rfl;rw [e2] at hl;simp [loadVar,Sem.run_bind,hagg,sizeOf,typeInfo,hq,hs,hl]
theorem zcC {m m':RecV} (A:ReBox w g m):(stRe (.pointer (some ⟨g,0,none⟩)) (.agg (ReC m'))).run Tryz.prog w = .ok () (w.setRow g (ReC m')):=by
 unfold stRe;have h:=run_storeCells_from (P:=Tryz.prog) g 78 (ReC m').toList 0 (ReC m) w A (by simp [ReC]) (ziF m')
 cases hq:Tryz.prog.info? 78 with
 | none=>have:=sizeRe;simp [hq] at this
 | some x =>
  have hs:x.size=3:=by have:=sizeRe;simpa [hq] using this
  simp only [Instr.storeAt,Instr.sureAddr,Sem.run_bind,Sem.run_pure,Result.andThen,storeVar,sizeOf,typeInfo,zI,zU];simp at h;simp [h,hq,hs]
theorem ReBox.setRow {m m':RecV} (A:ReBox w g m):ReBox (w.setRow g (ReC m')) g m':=setRow_heap w g _ _ _ _ A
theorem madeRe (w:World) (m:RecV) (g:Nat) (hg:w.heap.size=g):∃ w':World,(stRe (.pointer (some ⟨g,0,none⟩)) (.agg (ReC m))).run Tryz.prog (w.alloc (.cells (ReC re0) 78)) = .ok () w'/\ReBox w' g m/\Below w.heap.size w w'/\w'.heap.size=w.heap.size+1:=by
 subst hg;refine ⟨_,zcC (qj w _),(qj w _).setRow,zh (ze w _) (Nat.le_refl _),by simp [World.setRow]⟩
theorem res1Re {m:RecV} {fn:Func} {p:Tmp} (h:fn.results=#[.cell p 78]) {tmps:Array Value} (hp:tmps.getD p undef = .pointer (some ⟨g,0,none⟩)) (A:ReBox w g m) :
  (results fn tmps).run Tryz.prog w = .ok (ReV m) w:=by
 have hl:=zcD A;simp only [results,h];rw [Array.getD_eq_getD_getElem?] at hp;simp [hp,asAddr,hl]
structure FacV where
 addso:Option Addr
 addsn:Nat
 addsc:Nat
 veco:Option Addr
 vecn:Nat
 vecc:Nat
 cloudo:Option Addr
 cloudn:Nat
 cloudc:Nat
 recso:Option Addr
 recsn:Nat
 recsc:Nat
def fa0:FacV:=⟨none,0,0,none,0,0,none,0,0,none,0,0⟩
def FaC (m:FacV):Array Value:=#[.slice m.addso m.addsn m.addsc,.slice m.veco m.vecn m.vecc,.slice m.cloudo m.cloudn m.cloudc,.slice m.recso m.recsn m.recsc]
abbrev FaV (m:FacV):Value:=.agg (FaC m)
theorem zp (m:FacV):(FaC m).size=4:=rfl
theorem zfJ (m:FacV):∀ v∈(FaC m).toList,v.oneCell'=true:=by
 intro v hv;simp [FaC] at hv;rcases hv with rfl | rfl | rfl | rfl <;> rfl
theorem zl (m:FacV):(FaV m).cells=FaC m:=by simp [Value.cells]
structure FaAt (w:World) (a:Addr) (m:FacV):Prop where
 c0:w.cell? a=some (.slice m.addso m.addsn m.addsc)
 c1:w.cell? (a.add 1)=some (.slice m.veco m.vecn m.vecc)
 c2:w.cell? (a.add 2)=some (.slice m.cloudo m.cloudn m.cloudc)
 c3:w.cell? (a.add 3)=some (.slice m.recso m.recsn m.recsc)
theorem FaAt.on {a:Addr} {m:FacV} (S:FaAt w a m) (hb:Below w.heap.size w w'):FaAt w' a m:=by
 have h0:=World.block_lt_of_cell? _ _ S.c0;exact ⟨by rw [hb.cell h0];exact S.c0,by rw [hb.cell (by rw [xF];exact h0)];exact S.c1,by rw [hb.cell (by rw [xF];exact h0)];exact S.c2,by rw [hb.cell (by rw [xF];exact h0)];exact S.c3⟩
def FaBox (w:World) (g:Nat) (m:FacV):Prop:=w.heap[g]? = some (.cells (FaC m) 29 (0,0))
theorem FaBox.lt {m:FacV} (h:FaBox w g m):g < w.heap.size:=(Array.getElem?_eq_some_iff.1 h).1
theorem FaBox.below {m:FacV} (h:FaBox w g m) (hb:Below w.heap.size w w'):FaBox w' g m:=(hb.block g h.lt).trans h
theorem FaBox.c0 {m:FacV} (h:FaBox w g m):w.cell? ⟨g,0,none⟩=some (.slice m.addso m.addsn m.addsc):=by unfold FaBox at h;simp [World.cell?,h,FaC]
theorem FaBox.c1 {m:FacV} (h:FaBox w g m):w.cell? ⟨g,1,none⟩=some (.slice m.veco m.vecn m.vecc):=by unfold FaBox at h;simp [World.cell?,h,FaC]
theorem FaBox.c2 {m:FacV} (h:FaBox w g m):w.cell? ⟨g,2,none⟩=some (.slice m.cloudo m.cloudn m.cloudc):=by unfold FaBox at h;simp [World.cell?,h,FaC]
theorem FaBox.c3 {m:FacV} (h:FaBox w g m):w.cell? ⟨g,3,none⟩=some (.slice m.recso m.recsn m.recsc):=by unfold FaBox at h;simp [World.cell?,h,FaC]
theorem zY (w:World) (m:FacV):FaBox (w.alloc (.cells (FaC m) 29)) w.heap.size m:=by unfold FaBox;rw [heap_alloc_new]
def ldFa (v:Value):Sem Value:=Instr.loadAt 29 v
theorem zD (v:Value):Instr.loadAt 29 v=ldFa v:=rfl
def stFa (p v:Value):Sem Unit:=Instr.storeAt 29 p v
theorem zC (p v:Value):Instr.storeAt 29 p v=stFa p v:=rfl
theorem sizeFa:(Tryz.prog.info? 29).map (·.size)=some 4:=by kernel_rfl
theorem FaBox.range {m:FacV} (h:FaBox w g m):w.rangeAt g 0 (FaC m).toList:=by
 intro j v hv;rw [Nat.zero_add];unfold FaBox at h;simp only [Array.getElem?_toList] at hv;simp [World.cell?,h,hv]
theorem bQ {m:FacV} (A:FaBox w g m):(loadVar 29 ⟨g,0,none⟩).run Tryz.prog w = .ok (FaV m) w:=by
 have:=run_loadVar_mid (P:=Tryz.prog) w g 0 29 (FaC m).toList _ A.range Tryz.underlying29 rfl (by rw [sizeFa];rfl);simpa using this
theorem zT {m:FacV} (A:FaBox w g m):(ldFa (.pointer (some ⟨g,0,none⟩))).run Tryz.prog w = .ok (.agg (FaC m)) w:=by
 unfold ldFa;simp only [Instr.loadAt,Instr.sureAddr,Sem.run_bind,Sem.run_pure,Result.andThen];exact bQ A
theorem ws {a:Addr} {m:FacV} (A:FaAt w a m):(ldFa (.pointer (some a))).run Tryz.prog w = .ok (.agg (FaC m)) w:=by
 have hl:=run_loadCells_list (P:=Tryz.prog) (w:=w) a (FaC m).toList (fun j v hv=>by
  match j,hv with
  | 0,hv=>cases hv;rw [vQ];exact A.c0
  | 1,hv=>cases hv;exact A.c1
  | 2,hv=>cases hv;exact A.c2
  | 3,hv=>cases hv;exact A.c3
  | j+4,hv=>simp [FaC] at hv)
 unfold ldFa;simp only [Instr.loadAt,Instr.sureAddr,Sem.run_bind,Sem.run_pure,Result.andThen]
 cases hq:Tryz.prog.info? 29 with
 | none=>have:=sizeFa;simp [hq] at this
 | some x =>
  have hs:x.size=4:=by have:=sizeFa;simpa [hq] using this
  have hagg:(isAgg 29).run Tryz.prog w = .ok true w:=by
   unfold isAgg;rw [Sem.run_bind,run_underlying Tryz.underlying29 w];rfl
  have e2:(FaC m).toList.length=4:=rfl;rw [e2] at hl;simp [loadVar,Sem.run_bind,hagg,sizeOf,typeInfo,hq,hs,hl]
theorem qG {m m':FacV} (A:FaBox w g m):(stFa (.pointer (some ⟨g,0,none⟩)) (.agg (FaC m'))).run Tryz.prog w = .ok () (w.setRow g (FaC m')):=by
 unfold stFa;have h:=run_storeCells_from (P:=Tryz.prog) g 29 (FaC m').toList 0 (FaC m) w A (by simp [FaC]) (zfJ m')
 cases hq:Tryz.prog.info? 29 with
 | none=>have:=sizeFa;simp [hq] at this
 | some x =>
  have hs:x.size=4:=by have:=sizeFa;simpa [hq] using this
  simp only [Instr.storeAt,Instr.sureAddr,Sem.run_bind,Sem.run_pure,Result.andThen,storeVar,sizeOf,typeInfo,zl,zp];simp at h;simp [h,hq,hs]
theorem FaBox.setRow {m m':FacV} (A:FaBox w g m):FaBox (w.setRow g (FaC m')) g m':=setRow_heap w g _ _ _ _ A
theorem res1Fa {m:FacV} {fn:Func} {p:Tmp} (h:fn.results=#[.cell p 29]) {tmps:Array Value} (hp:tmps.getD p undef = .pointer (some ⟨g,0,none⟩)) (A:FaBox w g m) :
  (results fn tmps).run Tryz.prog w = .ok (FaV m) w:=by
 have hl:=bQ A;simp only [results,h];rw [Array.getD_eq_getD_getElem?] at hp;simp [hp,asAddr,hl]
end
section
open Go.RowKit

def cntF (n:Nat) (l:Array Bool):Nat:=(List.range n).countP (fun i => !l.getD i true)
theorem yt {p q:Nat -> Bool} {i:Nat}:∀ {xs:List Nat},(∀ j,q j=true -> p j=true) -> i∈xs -> p i=true -> q i=false -> xs.countP q < xs.countP p
 | [],_,h,_,_=>by cases h
 | x :: xs,hpq,h,hp,hq=>by
  have hle:xs.countP q <= xs.countP p:=List.countP_mono_left (fun j _=>hpq j);rcases List.mem_cons.1 h with rfl | h
  ·rw [List.countP_cons_of_neg (by simp [hq]),List.countP_cons_of_pos (by simp [hp])];omega
  ·have:=yt hpq h hp hq;rw [List.countP_cons,List.countP_cons];have hx:=hpq x
   cases hqx:q x with
   | true=>simp [hx hqx];exact this
   | false=>cases p x <;> simp <;> omega
theorem xY {md:Region.Mode} {ops:Array Oper} {l:Array Bool} {i:Nat} (h:i∈Region.ready md ops l):i < ops.size/\l.getD i true=false/\∀ o,ops[i]? = some o -> ∀ e∈o.after,Region.binds md e=true -> l.getD e.on false=true:=by
 unfold Region.ready at h;rw [List.mem_filter,List.mem_range] at h;obtain ⟨h1,h2⟩:=h;simp only [Bool.and_eq_true,Bool.not_eq_true'] at h2;refine ⟨h1,h2.1,fun o ho e he hb=>?_⟩;have h3:=h2.2;rw [ho] at h3;simp only [Option.map_some,Option.getD_some] at h3;have:=Array.all_eq_true'.1 h3 e he;simpa [hb] using this
theorem za5 {md:Region.Mode} {ops:Array Oper} {l:Array Bool} (h:cntF ops.size l=0):Region.ready md ops l=[]:=by
 unfold Region.ready;rw [List.filter_eq_nil_iff];intro i hi;have:=List.countP_eq_zero.1 h i hi;simp at this;simp [this]
theorem zaN {P:Program} {md:Region.Mode} {ops:Array Oper} {Q:Exit -> Act -> World -> Prop} (I:Array Bool -> Act -> World -> Prop) (hz:∀ l a w,I l a w -> l.size=ops.size)
  (hs:∀ l a w,I l a w -> ∀ i,i∈Region.ready md ops l -> wpOp P ops Q i (fun a' w'=>I (l.setIfInBounds i true) a' w') a w)
  (he:∀ l a w,I l a w -> Region.ready md ops l=[] -> Q .normal a w) :
  ∀ (fuel:Nat) (l:Array Bool) (a:Act) (w:World),I l a w -> cntF ops.size l <= fuel -> wpAny P md ops Q fuel l a w
 | 0,l,a,w,h,hf=>⟨za5 (by omega),he l a w h (za5 (by omega))⟩
 | fuel+1,l,a,w,h,hf=>by
  refine ⟨he l a w h,fun i hi=>wpOp_mono (fun a' w' h'=>?_) (hs l a w h i hi)⟩;refine zaN I hz hs he fuel _ a' w' h' ?_;obtain ⟨h1,h2,_⟩:=xY hi;have hl:=hz l a w h
  have:cntF ops.size (l.setIfInBounds i true) < cntF ops.size l:=by
   unfold cntF;refine yt (i:=i) (fun j hj=>?_) (List.mem_range.2 h1) (by simp only [h2];rfl) ?_
   ·by_cases e:i=j
    ·subst e;simp [Array.getD,hl,h1] at hj
    ·simpa [Array.getD_eq_getD_getElem?,Array.getElem?_setIfInBounds,e] using hj
   ·simp [Array.getD,hl,h1]
  omega
theorem qN {P:Program} {ops:Array Oper} {Q:Exit -> Act -> World -> Prop} {id:Nat} {a:Act} {w:World} (hm:P.follows .mixedOrders=true) (I:Array Bool -> Act -> World -> Prop) (h0:I (Array.replicate ops.size false) a w.drew) (hz:∀ l a w,I l a w -> l.size=ops.size)
  (hs:∀ l a w,I l a w -> ∀ i,i∈Region.ready .any ops l -> wpOp P ops Q i (fun a' w'=>I (l.setIfInBounds i true) a' w') a w)
  (he:∀ l a w,I l a w -> Region.ready .any ops l=[] -> Q .normal a w):(Code.region id ops true).wp P Q a w:=
 wp_region_any hm (zaN I hz hs he _ _ _ _ h0 (by unfold cntF;have:=List.countP_le_length (p:=fun i => !(Array.replicate ops.size false).getD i true) (l:=List.range ops.size);simpa using this))
def backward (ops:Array Oper):Bool:=(List.range ops.size).all fun i=>((ops[i]?).map fun o=>o.after.all fun e => !Region.binds .any e || decide (e.on < i)).getD true
theorem xR {ops:Array Oper} {l:Array Bool} (hb:backward ops=true) (hz:l.size=ops.size) (h:Region.ready .any ops l=[]):∀ i,i < ops.size -> l.getD i false=true:=by
 intro i
 induction i using Nat.strongRecOn with
 | _ i ih =>
  intro hi;unfold Region.ready at h;rw [List.filter_eq_nil_iff] at h;have h1:=h i (List.mem_range.2 hi);have h2:=List.all_eq_true.1 hb i (List.mem_range.2 hi);rw [Array.getElem?_eq_getElem hi] at h1 h2;simp only [Option.map_some,Option.getD_some] at h1 h2
  have h3:(ops[i].after.all fun e => !Region.binds .any e || l.getD e.on false)=true:=by
   rw [Array.all_eq_true'];intro e he;have:=Array.all_eq_true'.1 h2 e he
   cases hb:Region.binds .any e with
   | false=>simp
   | true =>
    simp only [hb,Bool.not_true,Bool.false_or,decide_eq_true_eq] at this;rw [ih e.on this (by omega)];simp
  rw [h3] at h1
  have hl:i < l.size:=by omega
  simp [Array.getD,hl] at h1 ⊢;exact h1
theorem zX {l:Array Bool} {i:Nat} (h:i < l.size):(l.setIfInBounds i true).getD i false=true:=by simp [Array.getD,h]
theorem zg {l:Array Bool} {i j:Nat} (h:i≠j):(l.setIfInBounds i true).getD j false=l.getD j false:=by simp [Array.getD_eq_getD_getElem?,h]
theorem vJ {l:Array Bool} {i:Nat} (h:l.getD i true=false):l.getD i false=false:=by
 rw [Array.getD_eq_getD_getElem?] at h ⊢
 cases hq:l[i]? with
 | none=>rw [hq] at h;cases h
 | some x=>rw [hq] at h;exact h
theorem wY (n i:Nat):(Array.replicate n false).getD i false=false:=by
 rw [Array.getD_eq_getD_getElem?,Array.getElem?_replicate];split <;> rfl
end
section
open Go.RowKit

abbrev ptr (g:Nat):Value:=.pointer (some ⟨g,0,none⟩)
def sl00:Nat -> Sl:=fun _=>sl0
structure TwoI (wk:World) (pa pb:Pv) (l:Array Bool) (W:World) (va xa ca vb xb cb ba bb:Value):Prop where
 sz:l.size=10
 b:Below wk.heap.size wk W
 h0:l.getD 0 false=true -> va=PV pa
 h1:l.getD 1 false=true -> l.getD 8 false=false -> ∃ g,xa = .slice (some ⟨g,0,none⟩) 1 1/\PRow W (some ⟨g,0,none⟩) 1 [pa]
 h2:l.getD 2 false=true -> ∃ F,ca=SAv F/\RowsIn wk.heap.size W F (runsOf [pa])/\(l.getD 6 false=true -> ∀ g,ba=ptr g -> FarS F g)/\(l.getD 7 false=true -> ∀ g,bb=ptr g -> FarS F g)
 h3:l.getD 3 false=true -> vb=PV pb
 h4:l.getD 4 false=true -> l.getD 8 false=false -> ∃ g,xb = .slice (some ⟨g,0,none⟩) 1 1/\PRow W (some ⟨g,0,none⟩) 1 [pb]
 h5:l.getD 5 false=true -> ∃ F,cb=SAv F/\RowsIn wk.heap.size W F (runsOf [pb])/\(l.getD 6 false=true -> ∀ g,ba=ptr g -> FarS F g)/\(l.getD 7 false=true -> ∀ g,bb=ptr g -> FarS F g)
 h6:l.getD 6 false=true -> ∃ g,ba=ptr g/\wk.heap.size <= g/\g < W.heap.size/\(l.getD 8 false=false -> Sets W g sl00)/\(l.getD 8 false=true -> ∀ F,ca=SAv F -> Sets W g F)
 h7:l.getD 7 false=true -> ∃ g,bb=ptr g/\wk.heap.size <= g/\g < W.heap.size/\(l.getD 9 false=false -> Sets W g sl00)/\(l.getD 9 false=true -> ∀ F,cb=SAv F -> Sets W g F)
 h67:l.getD 6 false=true -> l.getD 7 false=true -> ba≠bb
 c8:l.getD 8 false=true -> l.getD 2 false=true/\l.getD 5 false=true/\l.getD 6 false=true/\l.getD 7 false=true
 c9:l.getD 9 false=true -> l.getD 5 false=true/\l.getD 7 false=true
section
variable {wk : World} {pa pb : Pv} {l : Array Bool} {W W' : World} {va xa ca vb xb cb ba bb : Value}
theorem zjm {F G:Nat -> Sl} (h:SAv F=SAv G):SA F=SA G:=by injection h
theorem Sets.same {w:World} {g:Nat} {F G:Nat -> Sl} (h:Sets w g F) (e:SAv G=SAv F):Sets w g G:=by unfold Sets at h ⊢;rw [zjm e];exact h
theorem FarS.lo {lo:Nat} {F:Nat -> Sl} {G:Nat -> List Rn} (h:RowsIn lo W F G) {g:Nat} (hg:g < lo):FarS F g:=fun r hr ad e=>by have:=h.lo r hr ad e;omega
theorem FarS.hi {lo:Nat} {F:Nat -> Sl} {G:Nat -> List Rn} (h:RowsIn lo W F G):FarS F W.heap.size:=fun r hr ad e=>by have:=h.hi r hr ad e;omega
theorem xm {g g':Nat} (h:ptr g=ptr g'):g=g':=by simpa [ptr] using h
theorem TwoI.on (T:TwoI wk pa pb l W va xa ca vb xb cb ba bb) (hb:Below W.heap.size W W'):TwoI wk pa pb l W' va xa ca vb xb cb ba bb:=by
 refine ⟨T.sz,T.b.trans (hb.mono T.b.size),T.h0,fun h h'=>?_,fun h=>?_,T.h3,fun h h'=>?_,fun h=>?_,fun h=>?_,fun h=>?_,T.h67,T.c8,T.c9⟩
 ·obtain ⟨g,e,R⟩:=T.h1 h h';exact ⟨g,e,R.below hb⟩
 ·obtain ⟨F,e,R,f⟩:=T.h2 h;exact ⟨F,e,R.below hb,f⟩
 ·obtain ⟨g,e,R⟩:=T.h4 h h';exact ⟨g,e,R.below hb⟩
 ·obtain ⟨F,e,R,f⟩:=T.h5 h;exact ⟨F,e,R.below hb,f⟩
 ·obtain ⟨g,e,h1,h2,h3,h4⟩:=T.h6 h;exact ⟨g,e,h1,Nat.lt_of_lt_of_le h2 hb.size,fun q=>(h3 q).below hb,fun q F e=>(h4 q F e).below hb⟩
 ·obtain ⟨g,e,h1,h2,h3,h4⟩:=T.h7 h;exact ⟨g,e,h1,Nat.lt_of_lt_of_le h2 hb.size,fun q=>(h3 q).below hb,fun q F e=>(h4 q F e).below hb⟩
theorem TwoI.s0 (T:TwoI wk pa pb l W va xa ca vb xb cb ba bb):TwoI wk pa pb (l.setIfInBounds 0 true) W (PV pa) xa ca vb xb cb ba bb:=by
 refine ⟨by simpa using T.sz,T.b,fun _=>rfl,?_,?_,?_,?_,?_,?_,?_,?_,?_,?_⟩ <;> simp only [zg (show (0:Nat)≠1 by decide),zg (show (0:Nat)≠2 by decide),zg (show (0:Nat)≠3 by decide),zg (show (0:Nat)≠4 by decide),zg (show (0:Nat)≠5 by decide),zg (show (0:Nat)≠6 by decide),zg (show (0:Nat)≠7 by decide),zg (show (0:Nat)≠8 by decide),zg (show (0:Nat)≠9 by decide)]
 ·exact T.h1
 ·exact T.h2
 ·exact T.h3
 ·exact T.h4
 ·exact T.h5
 ·exact T.h6
 ·exact T.h7
 ·exact T.h67
 ·exact fun h=>by have:=T.c8 h;simp [this]
 ·exact fun h=>by have:=T.c9 h;simp [this]
theorem TwoI.s3 (T:TwoI wk pa pb l W va xa ca vb xb cb ba bb):TwoI wk pa pb (l.setIfInBounds 3 true) W va xa ca (PV pb) xb cb ba bb:=by
 refine ⟨by simpa using T.sz,T.b,?_,?_,?_,fun _=>rfl,?_,?_,?_,?_,?_,?_,?_⟩ <;> simp only [zg (show (3:Nat)≠0 by decide),zg (show (3:Nat)≠1 by decide),zg (show (3:Nat)≠2 by decide),zg (show (3:Nat)≠4 by decide),zg (show (3:Nat)≠5 by decide),zg (show (3:Nat)≠6 by decide),zg (show (3:Nat)≠7 by decide),zg (show (3:Nat)≠8 by decide),zg (show (3:Nat)≠9 by decide)]
 ·exact T.h0
 ·exact T.h1
 ·exact T.h2
 ·exact T.h4
 ·exact T.h5
 ·exact T.h6
 ·exact T.h7
 ·exact T.h67
 ·exact fun h=>by have:=T.c8 h;simp [this]
 ·exact fun h=>by have:=T.c9 h;simp [this]
theorem TwoI.s1 (T:TwoI wk pa pb l W va xa ca vb xb cb ba bb) (hS:PSrc W pa):TwoI wk pa pb (l.setIfInBounds 1 true) (W.alloc (.cells (PC pa) 26)) va (.slice (some ⟨W.heap.size,0,none⟩) 1 1) ca vb xb cb ba bb:=by
 have T:=T.on (ze W (.cells (PC pa) 26));refine ⟨by simpa using T.sz,T.b,?_,fun _ _=>⟨_,rfl,kR W pa hS⟩,?_,?_,?_,?_,?_,?_,?_,?_,?_⟩ <;> simp only [zg (show (1:Nat)≠0 by decide),zg (show (1:Nat)≠2 by decide),zg (show (1:Nat)≠3 by decide),zg (show (1:Nat)≠4 by decide),zg (show (1:Nat)≠5 by decide),zg (show (1:Nat)≠6 by decide),zg (show (1:Nat)≠7 by decide),zg (show (1:Nat)≠8 by decide),zg (show (1:Nat)≠9 by decide)]
 ·exact T.h0
 ·exact T.h2
 ·exact T.h3
 ·exact T.h4
 ·exact T.h5
 ·exact T.h6
 ·exact T.h7
 ·exact T.h67
 ·exact fun h=>by have:=T.c8 h;simp [this]
 ·exact fun h=>by have:=T.c9 h;simp [this]
theorem TwoI.s4 (T:TwoI wk pa pb l W va xa ca vb xb cb ba bb) (hS:PSrc W pb):TwoI wk pa pb (l.setIfInBounds 4 true) (W.alloc (.cells (PC pb) 26)) va xa ca vb (.slice (some ⟨W.heap.size,0,none⟩) 1 1) cb ba bb:=by
 have T:=T.on (ze W (.cells (PC pb) 26));refine ⟨by simpa using T.sz,T.b,?_,?_,?_,?_,fun _ _=>⟨_,rfl,kR W pb hS⟩,?_,?_,?_,?_,?_,?_⟩ <;> simp only [zg (show (4:Nat)≠0 by decide),zg (show (4:Nat)≠1 by decide),zg (show (4:Nat)≠2 by decide),zg (show (4:Nat)≠3 by decide),zg (show (4:Nat)≠5 by decide),zg (show (4:Nat)≠6 by decide),zg (show (4:Nat)≠7 by decide),zg (show (4:Nat)≠8 by decide),zg (show (4:Nat)≠9 by decide)]
 ·exact T.h0
 ·exact T.h1
 ·exact T.h2
 ·exact T.h3
 ·exact T.h5
 ·exact T.h6
 ·exact T.h7
 ·exact T.h67
 ·exact fun h=>by have:=T.c8 h;simp [this]
 ·exact fun h=>by have:=T.c9 h;simp [this]
theorem TwoI.s2 (T:TwoI wk pa pb l W va xa ca vb xb cb ba bb) (h8:l.getD 8 false=false) {F:Nat -> Sl} (R:RowsIn W.heap.size W' F (runsOf [pa])) (hb:Below W.heap.size W W'):TwoI wk pa pb (l.setIfInBounds 2 true) W' va xa (SAv F) vb xb cb ba bb:=by
 have hl:=T.b.size;have T':=T.on hb
 have f6:l.getD 6 false=true -> ∀ g,ba=ptr g -> FarS F g:=fun h g e=>by
  obtain ⟨g',e',_,h2,_⟩:=T.h6 h;obtain rfl:=xm (e.symm.trans e');exact FarS.lo R h2
 have f7:l.getD 7 false=true -> ∀ g,bb=ptr g -> FarS F g:=fun h g e=>by
  obtain ⟨g',e',_,h2,_⟩:=T.h7 h;obtain rfl:=xm (e.symm.trans e');exact FarS.lo R h2
 refine ⟨by simpa using T.sz,T'.b,?_,?_,?_,?_,?_,?_,?_,?_,?_,?_,?_⟩ <;> simp only [zX (show 2 < l.size by rw [T.sz];decide),zg (show (2:Nat)≠0 by decide),zg (show (2:Nat)≠1 by decide),zg (show (2:Nat)≠3 by decide),zg (show (2:Nat)≠4 by decide),zg (show (2:Nat)≠5 by decide),zg (show (2:Nat)≠6 by decide),zg (show (2:Nat)≠7 by decide),zg (show (2:Nat)≠8 by decide),zg (show (2:Nat)≠9 by decide)]
 ·exact T'.h0
 ·exact T'.h1
 ·exact fun _=>⟨F,rfl,⟨R.src,R.eq,fun r hr ad e=>Nat.le_trans hl (R.lo r hr ad e),R.hi⟩,f6,f7⟩
 ·exact T'.h3
 ·exact T'.h4
 ·exact T'.h5
 ·intro h;obtain ⟨g,e,h1,h2,h3,_⟩:=T'.h6 h;exact ⟨g,e,h1,h2,h3,fun q=>absurd q (by rw [h8];decide)⟩
 ·exact T'.h7
 ·exact T'.h67
 ·exact fun h=>by have:=T.c8 h;simp [this]
 ·exact fun h=>by have:=T.c9 h;simp [this]
theorem TwoI.s5 (T:TwoI wk pa pb l W va xa ca vb xb cb ba bb) (h9:l.getD 9 false=false) {F:Nat -> Sl} (R:RowsIn W.heap.size W' F (runsOf [pb])) (hb:Below W.heap.size W W'):TwoI wk pa pb (l.setIfInBounds 5 true) W' va xa ca vb xb (SAv F) ba bb:=by
 have hl:=T.b.size;have T':=T.on hb
 have f6:l.getD 6 false=true -> ∀ g,ba=ptr g -> FarS F g:=fun h g e=>by
  obtain ⟨g',e',_,h2,_⟩:=T.h6 h;obtain rfl:=xm (e.symm.trans e');exact FarS.lo R h2
 have f7:l.getD 7 false=true -> ∀ g,bb=ptr g -> FarS F g:=fun h g e=>by
  obtain ⟨g',e',_,h2,_⟩:=T.h7 h;obtain rfl:=xm (e.symm.trans e');exact FarS.lo R h2
 refine ⟨by simpa using T.sz,T'.b,?_,?_,?_,?_,?_,?_,?_,?_,?_,?_,?_⟩ <;> simp only [zX (show 5 < l.size by rw [T.sz];decide),zg (show (5:Nat)≠0 by decide),zg (show (5:Nat)≠1 by decide),zg (show (5:Nat)≠2 by decide),zg (show (5:Nat)≠3 by decide),zg (show (5:Nat)≠4 by decide),zg (show (5:Nat)≠6 by decide),zg (show (5:Nat)≠7 by decide),zg (show (5:Nat)≠8 by decide),zg (show (5:Nat)≠9 by decide)]
 ·exact T'.h0
 ·exact T'.h1
 ·exact T'.h2
 ·exact T'.h3
 ·exact T'.h4
 ·exact fun _=>⟨F,rfl,⟨R.src,R.eq,fun r hr ad e=>Nat.le_trans hl (R.lo r hr ad e),R.hi⟩,f6,f7⟩
 ·exact T'.h6
 ·intro h;obtain ⟨g,e,h1,h2,h3,_⟩:=T'.h7 h;exact ⟨g,e,h1,h2,h3,fun q=>absurd q (by rw [h9];decide)⟩
 ·exact T'.h67
 ·exact fun h=>by have:=T.c8 h;simp [this]
 ·exact fun h=>by have:=T.c9 h;simp [this]
theorem TwoI.s6 (T:TwoI wk pa pb l W va xa ca vb xb cb ba bb) (h8:l.getD 8 false=false):TwoI wk pa pb (l.setIfInBounds 6 true) (W.alloc (.cells (SA sl00) 136)) va xa ca vb xb cb (ptr W.heap.size) bb:=by
 have hl:=T.b.size;have T':=T.on (ze W (.cells (SA sl00) 136))
 have n7:l.getD 7 false=true -> ptr W.heap.size≠bb:=fun h e=>by
  obtain ⟨g',e',_,h2,_⟩:=T.h7 h;have:=xm (e.trans e');omega
 refine ⟨by simpa using T.sz,T'.b,?_,?_,?_,?_,?_,?_,?_,?_,?_,?_,?_⟩ <;> simp only [zX (show 6 < l.size by rw [T.sz];decide),zg (show (6:Nat)≠0 by decide),zg (show (6:Nat)≠1 by decide),zg (show (6:Nat)≠2 by decide),zg (show (6:Nat)≠3 by decide),zg (show (6:Nat)≠4 by decide),zg (show (6:Nat)≠5 by decide),zg (show (6:Nat)≠7 by decide),zg (show (6:Nat)≠8 by decide),zg (show (6:Nat)≠9 by decide)]
 ·exact T'.h0
 ·exact T'.h1
 ·intro h;obtain ⟨F,e,R,_,f7⟩:=T.h2 h;exact ⟨F,e,R.below (ze _ _),fun _ g eg=>by obtain rfl:=xm eg;exact FarS.hi R,f7⟩
 ·exact T'.h3
 ·exact T'.h4
 ·intro h;obtain ⟨F,e,R,_,f7⟩:=T.h5 h;exact ⟨F,e,R.below (ze _ _),fun _ g eg=>by obtain rfl:=xm eg;exact FarS.hi R,f7⟩
 ·exact fun _=>⟨_,rfl,hl,by simp,fun _=>jw W sl00,fun q=>absurd q (by rw [h8];decide)⟩
 ·exact T'.h7
 ·exact fun _=>n7
 ·exact fun h=>by have:=T.c8 h;simp [this]
 ·exact fun h=>by have:=T.c9 h;simp [this]
theorem TwoI.s7 (T:TwoI wk pa pb l W va xa ca vb xb cb ba bb) (h9:l.getD 9 false=false):TwoI wk pa pb (l.setIfInBounds 7 true) (W.alloc (.cells (SA sl00) 136)) va xa ca vb xb cb ba (ptr W.heap.size):=by
 have hl:=T.b.size;have T':=T.on (ze W (.cells (SA sl00) 136))
 have n6:l.getD 6 false=true -> ba≠ptr W.heap.size:=fun h e=>by
  obtain ⟨g',e',_,h2,_⟩:=T.h6 h;have:=xm (e.symm.trans e');omega
 refine ⟨by simpa using T.sz,T'.b,?_,?_,?_,?_,?_,?_,?_,?_,?_,?_,?_⟩ <;> simp only [zX (show 7 < l.size by rw [T.sz];decide),zg (show (7:Nat)≠0 by decide),zg (show (7:Nat)≠1 by decide),zg (show (7:Nat)≠2 by decide),zg (show (7:Nat)≠3 by decide),zg (show (7:Nat)≠4 by decide),zg (show (7:Nat)≠5 by decide),zg (show (7:Nat)≠6 by decide),zg (show (7:Nat)≠8 by decide),zg (show (7:Nat)≠9 by decide)]
 ·exact T'.h0
 ·exact T'.h1
 ·intro h;obtain ⟨F,e,R,f6,_⟩:=T.h2 h;exact ⟨F,e,R.below (ze _ _),f6,fun _ g eg=>by obtain rfl:=xm eg;exact FarS.hi R⟩
 ·exact T'.h3
 ·exact T'.h4
 ·intro h;obtain ⟨F,e,R,f6,_⟩:=T.h5 h;exact ⟨F,e,R.below (ze _ _),f6,fun _ g eg=>by obtain rfl:=xm eg;exact FarS.hi R⟩
 ·exact T'.h6
 ·exact fun _=>⟨_,rfl,hl,by simp,fun _=>jw W sl00,fun q=>absurd q (by rw [h9];decide)⟩
 ·exact fun h _=>n6 h
 ·exact fun h=>by have:=T.c8 h;simp [this]
 ·exact fun h=>by have:=T.c9 h;simp [this]
theorem TwoI.s8 (T:TwoI wk pa pb l W va xa ca vb xb cb ba bb) (h2:l.getD 2 false=true) (h5:l.getD 5 false=true) (h6:l.getD 6 false=true) (h7:l.getD 7 false=true) (h8:l.getD 8 false=false) :
  ∃ F g,ca=SAv F/\ba=ptr g/\Sets W g sl00/\TwoI wk pa pb (l.setIfInBounds 8 true) (W.setRow g (SA F)) va xa ca vb xb cb ba bb:=by
 obtain ⟨F,eF,RF,f6,f7⟩:=T.h2 h2;obtain ⟨g,eg,g1,g2,g3,_⟩:=T.h6 h6;refine ⟨F,g,eF,eg,g3 h8,?_⟩
 have hz:∀ cs:Array Value,(W.setRow g cs).heap.size=W.heap.size:=fun cs=>by simp [World.setRow]
 refine ⟨by simpa using T.sz,zh T.b g1,?_,?_,?_,?_,?_,?_,?_,?_,?_,?_,?_⟩ <;> simp only [zX (show 8 < l.size by rw [T.sz];decide),zg (show (8:Nat)≠0 by decide),zg (show (8:Nat)≠1 by decide),zg (show (8:Nat)≠2 by decide),zg (show (8:Nat)≠3 by decide),zg (show (8:Nat)≠4 by decide),zg (show (8:Nat)≠5 by decide),zg (show (8:Nat)≠6 by decide),zg (show (8:Nat)≠7 by decide),zg (show (8:Nat)≠9 by decide)]
 ·exact T.h0
 ·exact fun _ h=>by cases h
 ·exact fun h=>⟨F,eF,RF.off (f6 h6 g eg) _,f6,f7⟩
 ·exact T.h3
 ·exact fun _ h=>by cases h
 ·intro h;obtain ⟨G,eG,RG,k6,k7⟩:=T.h5 h;exact ⟨G,eG,RG.off (k6 h6 g eg) _,k6,k7⟩
 ·exact fun _=>⟨g,eg,g1,by rw [hz];exact g2,fun h=>(by cases h),fun _ F' e'=>((g3 h8).setRow (F':=F)).same (e'.symm.trans eF)⟩
 ·intro h;obtain ⟨g',e',k1,k2,k3,k4⟩:=T.h7 h;have hne:g'≠g:=fun e=>T.h67 h6 h (by rw [eg,e',e]);exact ⟨g',e',k1,by rw [hz];exact k2,fun q=>(setRow_other _ _ _ _ hne).trans (k3 q),fun q G eG=>(setRow_other _ _ _ _ hne).trans (k4 q G eG)⟩
 ·exact T.h67
 ·exact fun _=>by simp [h2,h5,h6,h7]
 ·exact fun h=>by have:=T.c9 h;simp [this]
theorem TwoI.s9 (T:TwoI wk pa pb l W va xa ca vb xb cb ba bb) (h5:l.getD 5 false=true) (h7:l.getD 7 false=true) (h8:l.getD 8 false=true) (h9:l.getD 9 false=false) :
  ∃ F g,cb=SAv F/\bb=ptr g/\Sets W g sl00/\TwoI wk pa pb (l.setIfInBounds 9 true) (W.setRow g (SA F)) va xa ca vb xb cb ba bb:=by
 obtain ⟨F,eF,RF,f6,f7⟩:=T.h5 h5;obtain ⟨g,eg,g1,g2,g3,_⟩:=T.h7 h7;refine ⟨F,g,eF,eg,g3 h9,?_⟩
 have hz:∀ cs:Array Value,(W.setRow g cs).heap.size=W.heap.size:=fun cs=>by simp [World.setRow]
 refine ⟨by simpa using T.sz,zh T.b g1,?_,?_,?_,?_,?_,?_,?_,?_,?_,?_,?_⟩ <;> simp only [zX (show 9 < l.size by rw [T.sz];decide),zg (show (9:Nat)≠0 by decide),zg (show (9:Nat)≠1 by decide),zg (show (9:Nat)≠2 by decide),zg (show (9:Nat)≠3 by decide),zg (show (9:Nat)≠4 by decide),zg (show (9:Nat)≠5 by decide),zg (show (9:Nat)≠6 by decide),zg (show (9:Nat)≠7 by decide),zg (show (9:Nat)≠8 by decide)]
 ·exact T.h0
 ·exact fun _ h=>by rw [h8] at h;cases h
 ·intro h;obtain ⟨G,eG,RG,k6,k7⟩:=T.h2 h;exact ⟨G,eG,RG.off (k7 h7 g eg) _,k6,k7⟩
 ·exact T.h3
 ·exact fun _ h=>by rw [h8] at h;cases h
 ·exact fun h=>⟨F,eF,RF.off (f7 h7 g eg) _,f6,f7⟩
 ·intro h;obtain ⟨g',e',k1,k2,k3,k4⟩:=T.h6 h;have hne:g'≠g:=fun e=>T.h67 h h7 (by rw [eg,e',e]);exact ⟨g',e',k1,by rw [hz];exact k2,fun q=>(setRow_other _ _ _ _ hne).trans (k3 q),fun q G eG=>(setRow_other _ _ _ _ hne).trans (k4 q G eG)⟩
 ·exact fun _=>⟨g,eg,g1,by rw [hz];exact g2,fun h=>(by cases h),fun _ F' e'=>((g3 h9).setRow (F':=F)).same (e'.symm.trans eF)⟩
 ·exact T.h67
 ·exact fun h=>by have:=T.c8 h;simp [this]
 ·exact fun _=>by simp [h5,h7]
theorem TwoI.all (T:TwoI wk pa pb l W va xa ca vb xb cb ba bb) (h:∀ i,i < 10 -> l.getD i false=true) :
  ∃ F G g g',va=PV pa/\vb=PV pb/\ca=SAv F/\cb=SAv G/\ba=ptr g/\bb=ptr g'/\g≠g'/\wk.heap.size <= g/\wk.heap.size <= g'/\Sets W g F/\Sets W g' G/\RowsIn wk.heap.size W F (runsOf [pa])/\RowsIn wk.heap.size W G (runsOf [pb])/\FarS F g/\FarS G g/\Below wk.heap.size wk W:=by
 obtain ⟨F,eF,RF,f6,_⟩:=T.h2 (h 2 (by decide));obtain ⟨G,eG,RG,k6,_⟩:=T.h5 (h 5 (by decide));obtain ⟨g,eg,g1,_,_,g4⟩:=T.h6 (h 6 (by decide));obtain ⟨g',eg',g1',_,_,g4'⟩:=T.h7 (h 7 (by decide));exact ⟨F,G,g,g',T.h0 (h 0 (by decide)),T.h3 (h 3 (by decide)),eF,eG,eg,eg',fun e=>T.h67 (h 6 (by decide)) (h 7 (by decide)) (by rw [eg,eg',e]),g1,g1',g4 (h 8 (by decide)) F eF,g4' (h 9 (by decide)) G eG,RF,RG,f6 (h 6 (by decide)) g eg,k6 (h 6 (by decide)) g eg,T.b⟩
theorem TwoI.start (wk:World) (pa pb:Pv) (va xa ca vb xb cb ba bb:Value):TwoI wk pa pb (Array.replicate 10 false) wk.drew va xa ca vb xb cb ba bb:=by
 refine ⟨by simp,zf wk,?_,?_,?_,?_,?_,?_,?_,?_,?_,?_,?_⟩ <;> simp only [wY] <;> (intro h;cases h)
end
end
section
open Go.RowKit

def PFar (p:Pv) (g:Nat):Prop:=(0 < p.vn -> ∀ ad,p.vo=some ad -> ad.block≠g)/\(0 < p.cn -> ∀ ad,p.co=some ad -> ad.block≠g)
theorem PFar.new {n g:Nat} {p:Pv} (h:PNew n p) (hg:g < n):PFar p g:=⟨fun _ ad e=>by have:=h.1 ad e;omega,fun _ ad e=>by have:=h.2 ad e;omega⟩
theorem PFar.old {W:World} {p:Pv} (h:PSrc W p) {g:Nat} (hg:W.heap.size <= g):PFar p g:=by
 refine ⟨fun hn ad e he=>?_,fun hn ad e he=>?_⟩
 ·have:=World.block_lt_of_cell? _ _ (h.vec.2.2 ad e 0 hn);rw [zs] at this;omega
 ·have:=World.block_lt_of_cell? _ _ (h.cloud.cell ad e 0 hn).c0;rw [zs] at this;omega
theorem PSrc.far {W W':World} {p:Pv} (h:PSrc W p) {g:Nat} (hf:PFar p g) (hk:∀ q,q≠g -> W'.heap[q]? = W.heap[q]?):PSrc W' p:=by
 have ev:∀ ad,p.vo=some ad -> 0 < p.vn -> ∀ m,W'.cell? (ad.add m)=W.cell? (ad.add m):=fun ad e hn m=>by unfold World.cell?;rw [zs,hk _ (hf.1 hn ad e)]
 have ec:∀ ad,p.co=some ad -> 0 < p.cn -> ∀ m,W'.cell? (ad.add m)=W.cell? (ad.add m):=fun ad e hn m=>by unfold World.cell?;rw [zs,hk _ (hf.2 hn ad e)]
 refine ⟨⟨h.vec.1,h.vec.2.1,fun ad e t ht=>by rw [ev ad e (by omega)];exact h.vec.2.2 ad e t ht⟩,⟨h.cloud.len,h.cloud.nil,fun ad e t ht=>?_,h.cloud.big,h.cloud.cap⟩,h.big⟩;have A:=h.cloud.cell ad e t ht;have e':=ec ad e (by omega);exact ⟨by rw [e'];exact A.c0,by have:=A.c1;rw [qA] at this ⊢;rw [e'];exact this,by have:=A.c2;rw [qA] at this ⊢;rw [e'];exact this⟩
theorem zjn {p q:Pv} (h:PV p=PV q):PC p=PC q:=by injection h
theorem PBox.same {w:World} {g:Nat} {p q:Pv} (h:PBox w g p) (e:PV q=PV p):PBox w g q:=by unfold PBox at h ⊢;rw [zjn e];exact h
abbrev vat (vs:List Value) (i:Nat):Value:=vs.getD i undef
structure BI (n st:Nat) (wk:World) (Φ : Nat -> Value -> World -> Prop) (late:List Nat) (RL:List (Nat × (Pst -> Prop))) (AL:List (Nat × Nat × Nat)) (l:Array Bool) (W:World) (vs:List Value):Prop where
 sz:l.size=n
 ln:vs.length=n
 b:Below wk.heap.size wk W
 h:∀ i,i < n -> l.getD i false=true -> (i∈late -> l.getD st false=false) -> Φ i (vat vs i) W
 r:∀ x,x∈RL -> l.getD x.1 false=true -> ∃ p,vat vs x.1=PV p/\PSrc W p/\x.2 p.P/\∀ y,y∈AL -> l.getD y.1 false=true -> ∀ g,vat vs y.1=ptr g -> PFar p g
 a:∀ y,y∈AL -> l.getD y.1 false=true -> ∃ g,vat vs y.1=ptr g/\wk.heap.size <= g/\g < W.heap.size/\(l.getD y.2.1 false=false -> PBox W g pv0)/\(l.getD y.2.1 false=true -> ∀ p,vat vs y.2.2=PV p -> PBox W g p)
 d:∀ y z,y∈AL -> z∈AL -> y.1≠z.1 -> l.getD y.1 false=true -> l.getD z.1 false=true -> vat vs y.1≠vat vs z.1
 c:∀ y,y∈AL -> l.getD y.2.1 false=true -> l.getD y.1 false=true/\l.getD y.2.2 false=true/\l.getD st false=true
def Mono (Φ : Nat -> Value -> World -> Prop):Prop:=∀ i x W W',Φ i x W -> Below W.heap.size W W' -> Φ i x W'
section
variable {n st : Nat} {wk : World} {Φ : Nat -> Value -> World -> Prop} {late : List Nat} {RL : List (Nat × (Pst -> Prop))} {AL : List (Nat × Nat × Nat)} {l : Array Bool} {W W' : World} {vs : List Value}
theorem jZ {i:Nat} {v:Value} (h:i < vs.length):vat (vs.set i v) i=v:=by simp [vat,List.getD,h]
theorem zB {i j:Nat} {v:Value} (h:i≠j):vat (vs.set i v) j=vat vs j:=by simp [vat,List.getD,h]
theorem BI.on (hm:Mono Φ) (T:BI n st wk Φ late RL AL l W vs) (hb:Below W.heap.size W W'):BI n st wk Φ late RL AL l W' vs:=by
 refine ⟨T.sz,T.ln,T.b.trans (hb.mono T.b.size),fun i h1 h2 h3=>hm _ _ _ _ (T.h i h1 h2 h3) hb,fun x hx hl=>?_,fun y hy hl=>?_,T.d,T.c⟩
 ·obtain ⟨p,e,S,q,f⟩:=T.r x hx hl;exact ⟨p,e,S.below hb,q,f⟩
 ·obtain ⟨g,e,h1,h2,h3,h4⟩:=T.a y hy hl;exact ⟨g,e,h1,Nat.lt_of_lt_of_le h2 hb.size,fun q=>(h3 q).below hb,fun q p e=>(h4 q p e).below hb⟩
theorem BI.plain (hm:Mono Φ) (T:BI n st wk Φ late RL AL l W vs) (hb:Below W.heap.size W W') (i:Nat) (hi:i < n) (hl:l.getD i false=false) (v:Value) (hΦ : Φ i v W') (h1:∀ x,x∈RL -> x.1≠i) (h2:∀ y,y∈AL -> y.1≠i/\y.2.1≠i) (h3:st≠i):BI n st wk Φ late RL AL (l.setIfInBounds i true) W' (vs.set i v):=by
 have T:=T.on hm hb
 have hi':i < vs.length:=by rw [T.ln];exact hi
 have hil:i < l.size:=by rw [T.sz];exact hi
 have st':(l.setIfInBounds i true).getD st false=l.getD st false:=zg (fun e=>h3 e.symm);refine ⟨by simpa using T.sz,by simpa using T.ln,T.b,fun j hj hlj hlt=>?_,fun x hx hlx=>?_,fun y hy hly=>?_,fun y z hy hz hne hly hlz=>?_,fun y hy hls=>?_⟩
 ·by_cases e:i=j
  ·subst e;rw [jZ hi'];exact hΦ
  ·rw [zB e];rw [zg e] at hlj;rw [st'] at hlt;exact T.h j hj hlj hlt
 ·have hx1:i≠x.1:=fun e=>h1 x hx e.symm;rw [zg hx1] at hlx;rw [zB hx1];obtain ⟨p,e,S,q,f⟩:=T.r x hx hlx;refine ⟨p,e,S,q,fun y hy hly=>?_⟩;have hy1:i≠y.1:=fun e=>(h2 y hy).1 e.symm;rw [zg hy1] at hly;rw [zB hy1];exact f y hy hly
 ·have hy1:i≠y.1:=fun e=>(h2 y hy).1 e.symm;have hy2:i≠y.2.1:=fun e=>(h2 y hy).2 e.symm;rw [zg hy1] at hly;rw [zB hy1,zg hy2];obtain ⟨g,e,g1,g2,g3,g4⟩:=T.a y hy hly;refine ⟨g,e,g1,g2,g3,fun hs=>?_⟩
  have hy3:i≠y.2.2:=fun e=>by
   have:=(T.c y hy hs).2.1;rw [<- e,hl] at this
   cases this
  rw [zB hy3];exact g4 hs
 ·have hy1:i≠y.1:=fun e=>(h2 y hy).1 e.symm;have hz1:i≠z.1:=fun e=>(h2 z hz).1 e.symm;rw [zg hy1] at hly;rw [zg hz1] at hlz;rw [zB hy1,zB hz1];exact T.d y z hy hz hne hly hlz
 ·have hy1:i≠y.1:=fun e=>(h2 y hy).1 e.symm;have hy2:i≠y.2.1:=fun e=>(h2 y hy).2 e.symm;rw [zg hy2] at hls;have hc:=T.c y hy hls;rw [zg hy1,st'];refine ⟨hc.1,?_,hc.2.2⟩;by_cases e:i=y.2.2
  ·rw [<- e];exact zX hil
  ·rw [zg e];exact hc.2.1
theorem BI.make (hm:Mono Φ) (T:BI n st wk Φ late RL AL l W vs) (i s c:Nat) (hi:i < n) (hl:l.getD i false=false) (_:(i,s,c)∈AL) (hu:∀ y,y∈AL -> y.1=i -> y=(i,s,c)) (h1:∀ x,x∈RL -> x.1≠i) (h2:∀ y,y∈AL -> y.2.1≠i/\y.2.2≠i) (hΦ : ∀ v U,Φ i v U) (h3:st≠i):BI n st wk Φ late RL AL (l.setIfInBounds i true) (W.alloc (.cells (PC pv0) 26)) (vs.set i (ptr W.heap.size)):=by
 have T':=T.on hm (ze W (.cells (PC pv0) 26))
 have hi':i < vs.length:=by rw [T.ln];exact hi
 have hil:i < l.size:=by rw [T.sz];exact hi
 have st':(l.setIfInBounds i true).getD st false=l.getD st false:=zg (fun e=>h3 e.symm);refine ⟨by simpa using T.sz,by simpa using T.ln,T'.b,fun j hj hlj hlt=>?_,fun x hx hlx=>?_,fun y hy hly=>?_,fun y z hy hz hne hly hlz=>?_,fun y hy hls=>?_⟩
 ·by_cases e:i=j
  ·subst e;exact hΦ _ _
  ·rw [zB e];rw [zg e] at hlj;rw [st'] at hlt;exact T'.h j hj hlj hlt
 ·have hx1:i≠x.1:=fun e=>h1 x hx e.symm;rw [zg hx1] at hlx;rw [zB hx1];obtain ⟨p,e,S,q,f⟩:=T.r x hx hlx;refine ⟨p,e,S.below (ze _ _),q,fun y hy hly g eg=>?_⟩;by_cases e1:i=y.1
  ·rw [<- e1,jZ hi'] at eg;obtain rfl:=xm eg;exact PFar.old S (Nat.le_refl _)
  ·rw [zg e1] at hly;rw [zB e1] at eg;exact f y hy hly g eg
 ·by_cases e1:i=y.1
  ·obtain rfl:=hu y hy e1.symm;refine ⟨W.heap.size,by rw [jZ hi'],T.b.size,by simp,fun _=>zm W pv0,fun hs=>?_⟩;rw [zg (fun e=>(h2 _ hy).1 e.symm)] at hs;have:=(T.c _ hy hs).1;rw [hl] at this
   cases this
  ·have hy2:i≠y.2.1:=fun e=>(h2 y hy).1 e.symm;rw [zg e1] at hly;rw [zB e1,zg hy2,zB (fun e=>(h2 y hy).2 e.symm)];exact T'.a y hy hly
 ·by_cases e1:i=y.1
  ·have e2:i≠z.1:=fun e=>hne (by rw [<- e1,<- e]);rw [zg e2] at hlz;rw [<- e1,jZ hi',zB e2];obtain ⟨g,e,_,g2,_⟩:=T.a z hz hlz;intro h;have:=xm (h.trans e);omega
  ·rw [zg e1] at hly;rw [zB e1];by_cases e2:i=z.1
   ·rw [<- e2,jZ hi'];obtain ⟨g,e,_,g2,_⟩:=T.a y hy hly;intro h;have:=xm (h.symm.trans e);omega
   ·rw [zg e2] at hlz;rw [zB e2];exact T.d y z hy hz hne hly hlz
 ·have hy2:i≠y.2.1:=fun e=>(h2 y hy).1 e.symm;rw [zg hy2] at hls;have hc:=T.c y hy hls;rw [st',zg (fun e=>(h2 y hy).2 e.symm)];refine ⟨?_,hc.2⟩;by_cases e:i=y.1
  ·rw [<- e];exact zX hil
  ·rw [zg e];exact hc.1
theorem BI.fill (T:BI n st wk Φ late RL AL l W vs) (i s c:Nat) (p:Pv) (hs:s < n) (hl:l.getD s false=false) (hA:(i,s,c)∈AL) (hu:∀ y,y∈AL -> y.2.1=s -> y=(i,s,c)) (hk:∀ y,y∈AL -> y.1=i -> y=(i,s,c)) (di:l.getD i false=true) (dc:l.getD c false=true) (dst:s=st∨l.getD st false=true) (hp:vat vs c=PV p) (h1:∀ x,x∈RL -> x.1≠s) (h2:∀ y,y∈AL -> y.1≠s/\y.2.2≠s)
  (hm:∀ j x U U',j ∉ late -> Φ j x U -> Φ j x U') (hΦ : ∀ v U,Φ s v U) (v:Value) :
  ∃ g,vat vs i=ptr g/\PBox W g pv0/\BI n st wk Φ late RL AL (l.setIfInBounds s true) (W.setRow g (PC p)) (vs.set s v):=by
 obtain ⟨g,eg,g1,g2,g3,_⟩:=T.a _ hA di
 have hi':s < vs.length:=by rw [T.ln];exact hs
 have hsl:s < l.size:=by rw [T.sz];exact hs
 have hst:(l.setIfInBounds s true).getD st false=true:=by
  by_cases e:s=st
  ·rw [<- e];exact zX hsl
  ·rw [zg e];exact dst.resolve_left e
 have hz:(W.setRow g (PC p)).heap.size=W.heap.size:=by simp [World.setRow]
 have hother:∀ q,q≠g -> (W.setRow g (PC p)).heap[q]? = W.heap[q]?:=fun q hq=>setRow_other _ _ _ _ hq;refine ⟨g,eg,g3 hl,by simpa using T.sz,by simpa using T.ln,zh T.b g1,fun j hj hlj hlt=>?_,fun x hx hlx=>?_,fun y hy hly=>?_,fun y z hy hz' hne hly hlz=>?_,fun y hy hls=>?_⟩
 ·by_cases e:s=j
  ·subst e;exact hΦ _ _
  ·have hjl:j ∉ late:=fun hm'=>by have:=hlt hm';rw [hst] at this;cases this
   rw [zB e];rw [zg e] at hlj;exact hm j _ W _ hjl (T.h j hj hlj (fun hm'=>absurd hm' hjl))
 ·have hx1:s≠x.1:=fun e=>h1 x hx e.symm;rw [zg hx1] at hlx;rw [zB hx1];obtain ⟨p',e',S',q',f⟩:=T.r x hx hlx;refine ⟨p',e',S'.far (f _ hA di g eg) hother,q',fun y hy hly=>?_⟩;have hy1:s≠y.1:=fun e=>(h2 y hy).1 e.symm;rw [zg hy1] at hly;rw [zB hy1];exact f y hy hly
 ·have hy1:s≠y.1:=fun e=>(h2 y hy).1 e.symm;rw [zg hy1] at hly;rw [zB hy1,zB (fun e=>(h2 y hy).2 e.symm)];by_cases e:y.1=i
  ·obtain rfl:=hk y hy e;refine ⟨g,eg,g1,by rw [hz];exact g2,fun h=>?_,fun _ q hq=>?_⟩
   ·rw [zX hsl] at h;cases h
   ·have:PBox (W.setRow g (PC p)) g p:=setRow_heap _ _ _ _ _ _ (g3 hl);exact this.same (hq.symm.trans hp)
  ·obtain ⟨g',eg',k1,k2,k3,k4⟩:=T.a y hy hly;have hne:g'≠g:=fun h=>T.d y _ hy hA (by exact e) hly di (by rw [eg',h];exact eg.symm)
   have hy2:s≠y.2.1:=fun h=>by have:=hu y hy h.symm;rw [this] at e;exact e rfl
   rw [zg hy2];exact ⟨g',eg',k1,by rw [hz];exact k2,fun q=>(hother _ hne).trans (k3 q),fun q p' e'=>(hother _ hne).trans (k4 q p' e')⟩
 ·have hy1:s≠y.1:=fun e=>(h2 y hy).1 e.symm;have hz1:s≠z.1:=fun e=>(h2 z hz').1 e.symm;rw [zg hy1] at hly;rw [zg hz1] at hlz;rw [zB hy1,zB hz1];exact T.d y z hy hz' hne hly hlz
 ·have hy1:s≠y.1:=fun e=>(h2 y hy).1 e.symm;have hy3:s≠y.2.2:=fun e=>(h2 y hy).2 e.symm;rw [zg hy1,zg hy3];by_cases e:s=y.2.1
  ·obtain rfl:=hu y hy e.symm;exact ⟨di,dc,hst⟩
  ·rw [zg e] at hls;have:=T.c y hy hls;exact ⟨this.1,this.2.1,hst⟩
theorem BI.start (n st:Nat) (wk:World) (Φ : Nat -> Value -> World -> Prop) (late:List Nat) (RL:List (Nat × (Pst -> Prop))) (AL:List (Nat × Nat × Nat)) (vs:List Value) (h:vs.length=n):BI n st wk Φ late RL AL (Array.replicate n false) wk.drew vs:=by
 refine ⟨by simp,h,zf wk,?_,?_,?_,?_,?_⟩ <;> simp only [wY]
 ·intro i _ h;cases h
 ·intro x _ h;cases h
 ·intro y _ h;cases h
 ·intro y z _ _ _ h;cases h
 ·intro y _ h;cases h
end
end
section
open Go.RowKit
attribute [local go_sem ↓] zr zq
attribute [local go_sem] zE zi qq zk qI
section
variable {n st : Nat} {wk : World} {Φ : Nat -> Value -> World -> Prop} {late : List Nat} {RL : List (Nat × (Pst -> Prop))} {AL : List (Nat × Nat × Nat)} {l : Array Bool} {W W' : World} {vs : List Value}
theorem BI.callF (hm:Mono Φ) (T:BI n st wk Φ late RL AL l W vs) (hb:Below W.heap.size W W') (i:Nat) (S:Pst -> Prop) (hi:i < n) (hl:l.getD i false=false) (_:(i,S)∈RL) (hu:∀ x,x∈RL -> x.1=i -> x.2=S) (p:Pv) (hS:PSrc W' p) (hF:∀ g,wk.heap.size <= g -> g < W.heap.size -> PFar p g) (hp:S p.P) (hΦ : ∀ v U,Φ i v U) (h2:∀ y,y∈AL -> y.1≠i/\y.2.1≠i) (h3:st≠i):BI n st wk Φ late RL AL (l.setIfInBounds i true) W' (vs.set i (PV p)):=by
 have T':=T.on hm hb
 have hi':i < vs.length:=by rw [T.ln];exact hi
 have hil:i < l.size:=by rw [T.sz];exact hi
 have st':(l.setIfInBounds i true).getD st false=l.getD st false:=zg (fun e=>h3 e.symm);refine ⟨by simpa using T.sz,by simpa using T.ln,T'.b,fun j hj hlj hlt=>?_,fun x hx hlx=>?_,fun y hy hly=>?_,fun y z hy hz hne hly hlz=>?_,fun y hy hls=>?_⟩
 ·by_cases e:i=j
  ·subst e;exact hΦ _ _
  ·rw [zB e];rw [zg e] at hlj;rw [st'] at hlt;exact T'.h j hj hlj hlt
 ·by_cases e:i=x.1
  ·have e2:=hu x hx e.symm;refine ⟨p,by rw [<- e,jZ hi'],hS,by rw [e2];exact hp,fun y hy hly g eg=>?_⟩;have hy1:i≠y.1:=fun e=>(h2 y hy).1 e.symm;rw [zg hy1] at hly;rw [zB hy1] at eg;obtain ⟨g',e',g1,g2,_⟩:=T.a y hy hly;obtain rfl:=xm (eg.symm.trans e');exact hF _ g1 g2
  ·rw [zg e] at hlx;rw [zB e];obtain ⟨p',e',S',q',f⟩:=T'.r x hx hlx;refine ⟨p',e',S',q',fun y hy hly=>?_⟩;have hy1:i≠y.1:=fun e=>(h2 y hy).1 e.symm;rw [zg hy1] at hly;rw [zB hy1];exact f y hy hly
 ·have hy1:i≠y.1:=fun e=>(h2 y hy).1 e.symm;have hy2:i≠y.2.1:=fun e=>(h2 y hy).2 e.symm;rw [zg hy1] at hly;rw [zB hy1,zg hy2];obtain ⟨g,e,g1,g2,g3,g4⟩:=T'.a y hy hly;refine ⟨g,e,g1,g2,g3,fun hs=>?_⟩
  have hy3:i≠y.2.2:=fun e=>by
   have:=(T.c y hy hs).2.1;rw [<- e,hl] at this
   cases this
  rw [zB hy3];exact g4 hs
 ·have hy1:i≠y.1:=fun e=>(h2 y hy).1 e.symm;have hz1:i≠z.1:=fun e=>(h2 z hz).1 e.symm;rw [zg hy1] at hly;rw [zg hz1] at hlz;rw [zB hy1,zB hz1];exact T.d y z hy hz hne hly hlz
 ·have hy1:i≠y.1:=fun e=>(h2 y hy).1 e.symm;have hy2:i≠y.2.1:=fun e=>(h2 y hy).2 e.symm;rw [zg hy2] at hls;have hc:=T.c y hy hls;rw [zg hy1,st'];refine ⟨hc.1,?_,hc.2.2⟩;by_cases e:i=y.2.2
  ·rw [<- e];exact zX hil
  ·rw [zg e];exact hc.2.1
end
def GivesF (w w':World) (e:Ending) (p:Pv) (Q:Pst -> Prop):Prop:=∃ q:Pv,e = .returned (PV q)/\PSrc w' q/\(q=p∨PNew w.heap.size q)/\Below w.heap.size w w'/\Q q.P
theorem y7 (a:Pv) (w:World) (hS:PSrc w a):Calls Tryz.prog 204 #[PV a] w fun e w'=>GivesF w w' e a (CanonOf (runsAt a.P)):=by
 have b0:=ze w (.cells (PC a) 26);have b1:=ze (w.alloc (.cells (PC a) 26)) (.cells (PC pv0) 26);have hp1:=zm (w.alloc (.cells (PC a) 26)) pv0;rw [World.size_alloc] at hp1;have HXA:=hide ((zm w a).below b1);have HB1:=hide (b0.trans (b1.mono b0.size));have HS:=hide (hS.below HB1.out);have HS0:=hide hS;have HP1:=hide hp1;clear hS b0 b1 hp1;obtain ⟨wk,hwk⟩:∃ wk,(w.alloc (.cells (PC a) 26)).alloc (.cells (PC pv0) 26)=wk:=⟨_,rfl⟩;rw [hwk] at HXA HB1 HS HP1
 have HZ:Hid (wk.heap.size=w.heap.size+2):=by show _=_;rw [<- hwk];simp
 have l1:=zj HXA.out.at
 go_enter Tryz.func204,Tryz.ntmps204;go_wp2_with fail;clear hwk;refine (q9 a _ HS.out).mono ?_;rintro e w1 ⟨b,rfl,hb,b2⟩;have HBI:=hide hb;have HB2:=wTr HB1 b2;have HP2:=hide (HP1.out.below b2);have HS2:=hide (HS.out.below b2)
 have l2:=zj (HXA.out.below b2).at
 have HZ2:Hid (w.heap.size+2 <= w1.heap.size):=by have:=b2.size;have h:=HZ.out;show _ <= _;omega
 clear l1 hb b2 HXA HP1 HS HB1 HZ
 cases b with
 | true =>
  have s1:=qV (p':=a) HP2.out;have HE1:Hid (PBox (w1.setRow (w.heap.size+1) (PC a)) (w.heap.size+1) a):=setRow_heap _ _ _ _ _ _ HP2.out
  have HE2:Hid (GivesF w (w1.setRow (w.heap.size+1) (PC a)) (.returned (PV a)) a (CanonOf (runsAt a.P))):=by
   have hf:=HBI.out.out.1 rfl;exact ⟨a,rfl,HS2.out.far (PFar.old HS0.out (by omega)) (fun q hq=>setRow_other _ _ _ _ hq),Or.inl rfl,zh HB2.out (by omega),kj hf.1 hf.2⟩
  go_wp2_with fail;exact bodyPost_ret (v:=PV a) (resP Tryz.results204 rfl HE1.out) rfl HE2.out
 | false =>
  go_wp2_with fail;refine (jP a _ HS2.out).mono ?_;rintro e w2 ⟨p,rfl,S2,n2,b3,c2⟩;obtain ⟨s1,e1,e2,e3,e4⟩:=qt (w:=w) (HP2.out.below b3) S2 (n2.mono (by have:=HZ2.out;omega)) (HB2.out.trans (b3.mono HB2.out.size)) (by omega);have HE1:=hide e1;have HE2:Hid (GivesF w (w2.setRow (w.heap.size+1) (PC p)) (.returned (PV p)) a (CanonOf (runsAt a.P))):=⟨p,rfl,e2,Or.inr e3,e4,c2⟩;clear S2 n2 b3 c2 e1 e2 e3 e4 l2;go_wp2_with fail;exact bodyPost_ret (v:=PV p) (resP Tryz.results204 rfl HE1.out) rfl HE2.out
end
section

def lex {α : Type} (c : α -> α -> Int):List α -> List α -> Int
 | [],[]=>0
 | [],_ :: _ => -1
 | _ :: _,[]=>1
 | x :: s,y :: t=>if c x y=0 then lex c s t else c x y
structure Tot {α : Type} (c : α -> α -> Int):Prop where
 rng:∀ x y,c x y = -1∨c x y=0∨c x y=1
 neg:∀ x y,c y x = - c x y
 eq:∀ x y,c x y=0↔x=y
 tr:∀ x y z,c x y <= 0 -> c y z <= 0 -> c x z <= 0
theorem Tot.lt {α : Type} {c : α -> α -> Int} (h:Tot c) {x y z : α} (h1:c x y < 0) (h2:c y z <= 0):c x z < 0:=by
 have h3:=h.tr x y z (by omega) h2;by_cases e:c x z=0
 ·have:=(h.eq x z).1 e;subst this;have:=h.neg x y;omega
 ·omega
theorem xr:Tot cmpI:=by
 refine ⟨fun x y=>?_,fun x y=>?_,fun x y=>?_,fun x y z=>?_⟩ <;> unfold cmpI
 ·split
  ·omega
  ·split <;> omega
 ·split <;> split <;> (try split) <;> omega
 ·split
  ·omega
  ·split <;> omega
 ·intro h1 h2
  split at h1
  ·split at h2
   ·rw [if_pos (by omega)];omega
   ·split at h2
    ·omega
    ·rw [if_pos (by omega)];omega
  ·split at h1
   ·omega
   ·split at h2
    ·rw [if_pos (by omega)];omega
    ·split at h2
     ·omega
     ·rw [if_neg (by omega),if_neg (by omega)];omega
theorem Tot.lex {α : Type} {c : α -> α -> Int} (h:Tot c):Tot (lex c):=by
 refine ⟨?_,?_,?_,?_⟩
 ·intro x
  induction x with
  | nil=>intro y;cases y <;> simp [Go.Proofs.YtjffpimfngdggaaGreat.lex]
  | cons a s ih =>
   intro y
   cases y with
   | nil=>simp [Go.Proofs.YtjffpimfngdggaaGreat.lex]
   | cons b t =>
    simp only [Go.Proofs.YtjffpimfngdggaaGreat.lex]
    split
    ·exact ih t
    ·exact h.rng a b
 ·intro x
  induction x with
  | nil=>intro y;cases y <;> simp [Go.Proofs.YtjffpimfngdggaaGreat.lex]
  | cons a s ih =>
   intro y
   cases y with
   | nil=>simp [Go.Proofs.YtjffpimfngdggaaGreat.lex]
   | cons b t =>
    simp only [Go.Proofs.YtjffpimfngdggaaGreat.lex];have:=h.neg a b;by_cases e:c a b=0
    ·rw [if_pos e,if_pos (by omega)];exact ih t
    ·rw [if_neg e,if_neg (by omega)];exact this
 ·intro x
  induction x with
  | nil=>intro y;cases y <;> simp [Go.Proofs.YtjffpimfngdggaaGreat.lex]
  | cons a s ih =>
   intro y
   cases y with
   | nil=>simp [Go.Proofs.YtjffpimfngdggaaGreat.lex]
   | cons b t =>
    simp only [Go.Proofs.YtjffpimfngdggaaGreat.lex];by_cases e:c a b=0
    ·rw [if_pos e,ih t];have:=(h.eq a b).1 e;subst this;simp
    ·rw [if_neg e];constructor
     ·intro g;exact absurd g e
     ·intro g
      have:a=b:=by injection g
      exact absurd ((h.eq a b).2 this) e
 ·intro x
  induction x with
  | nil =>
   intro y z h1 h2
   cases z with
   | nil=>simp [Go.Proofs.YtjffpimfngdggaaGreat.lex]
   | cons d u=>simp [Go.Proofs.YtjffpimfngdggaaGreat.lex]
  | cons a s ih =>
   intro y z h1 h2
   cases y with
   | nil=>simp [Go.Proofs.YtjffpimfngdggaaGreat.lex] at h1
   | cons b t =>
    cases z with
    | nil=>simp [Go.Proofs.YtjffpimfngdggaaGreat.lex] at h2
    | cons d u =>
     simp only [Go.Proofs.YtjffpimfngdggaaGreat.lex] at h1 h2 ⊢;by_cases e1:c a b=0
     ·rw [if_pos e1] at h1;have:=(h.eq a b).1 e1;subst this;by_cases e2:c a d=0
      ·rw [if_pos e2] at h2 ⊢;exact ih t u h1 h2
      ·rw [if_neg e2] at h2 ⊢;exact h2
     ·rw [if_neg e1] at h1;by_cases e2:c b d=0
      ·have:=(h.eq b d).1 e2;subst this;rw [if_neg e1];exact h1
      ·rw [if_neg e2] at h2;have:=h.lt (x:=a) (y:=b) (z:=d) (by omega) h2;rw [if_neg (by omega)];omega
def both {α β γ : Type} (f : α -> β) (g : α -> γ) (c1 : β -> β -> Int) (c2 : γ -> γ -> Int) (x y : α):Int:=if c1 (f x) (f y)=0 then c2 (g x) (g y) else c1 (f x) (f y)
theorem Tot.both {α β γ : Type} {f : α -> β} {g : α -> γ} {c1 : β -> β -> Int} {c2 : γ -> γ -> Int} (h1:Tot c1) (h2:Tot c2) (hi:∀ x y,f x=f y -> g x=g y -> x=y):Tot (both f g c1 c2):=by
 refine ⟨fun x y=>?_,fun x y=>?_,fun x y=>?_,fun x y z=>?_⟩ <;> unfold Go.Proofs.YtjffpimfngdggaaGreat.both
 ·split
  ·exact h2.rng _ _
  ·exact h1.rng _ _
 ·have:=h1.neg (f x) (f y);by_cases e:c1 (f x) (f y)=0
  ·rw [if_pos e,if_pos (by omega)];exact h2.neg _ _
  ·rw [if_neg e,if_neg (by omega)];exact this
 ·by_cases e:c1 (f x) (f y)=0
  ·rw [if_pos e,h2.eq];exact ⟨fun k=>hi x y ((h1.eq _ _).1 e) k,fun k=>by rw [k]⟩
  ·rw [if_neg e];exact ⟨fun k=>absurd k e,fun k=>absurd ((h1.eq _ _).2 (by rw [k])) e⟩
 ·intro a b;by_cases e1:c1 (f x) (f y)=0
  ·rw [if_pos e1] at a;have q:=(h1.eq _ _).1 e1;rw [q];by_cases e2:c1 (f y) (f z)=0
   ·rw [if_pos e2] at b ⊢;exact h2.tr _ _ _ a b
   ·rw [if_neg e2] at b ⊢;exact b
  ·rw [if_neg e1] at a;by_cases e2:c1 (f y) (f z)=0
   ·have q:=(h1.eq _ _).1 e2;rw [<- q,if_neg e1];exact a
   ·rw [if_neg e2] at b;have:=h1.lt (x:=f x) (y:=f y) (z:=f z) (by omega) b;rw [if_neg (by omega)];omega
theorem ziP {x y:Sn} (h1:x.rep=y.rep) (h2:x.lo=y.lo) (h3:x.hi=y.hi):x=y:=by
 cases x;cases y;simp_all
def cmp3 (x y:Sn):Int:=if cmpI x.rep y.rep=0 then (if cmpI x.lo y.lo=0 then cmpI x.hi y.hi else cmpI x.lo y.lo) else cmpI x.rep y.rep
theorem xO:Tot cmp3:=by
 have h:Tot (both (fun x:Int × Int × Int=>x.1) (fun x=>x.2) cmpI (both (fun x:Int × Int=>x.1) (fun x=>x.2) cmpI cmpI)):=
  Tot.both xr (Tot.both xr xr (fun x y h1 h2=>Prod.ext h1 h2)) (fun x y h1 h2=>Prod.ext h1 h2)
 have e:∀ x y,cmp3 x y=both (fun x:Int × Int × Int=>x.1) (fun x=>x.2) cmpI (both (fun x:Int × Int=>x.1) (fun x=>x.2) cmpI cmpI) (x.rep,x.lo,x.hi) (y.rep,y.lo,y.hi):=fun x y=>rfl;refine ⟨fun x y=>?_,fun x y=>?_,fun x y=>?_,fun x y z=>?_⟩
 ·rw [e];exact h.rng _ _
 ·rw [e,e];exact h.neg _ _
 ·rw [e,h.eq];constructor
  ·intro g;simp only [Prod.mk.injEq] at g;exact ziP g.1 g.2.1 g.2.2
  ·intro g;rw [g]
 ·rw [e,e,e];exact h.tr _ _ _
def cmpP (P Q:Pst):Int:=if lex cmpI P.vec Q.vec=0 then lex cmp3 P.cloud Q.cloud else lex cmpI P.vec Q.vec
theorem zgZ:Tot cmpP:=Tot.both (f:=Pst.vec) (g:=Pst.cloud) xr.lex xO.lex (fun x y h1 h2=>by cases x;cases y;simp_all)
theorem jE {α : Type} {c : α -> α -> Int} (hc:Tot c) (A B:List α):∀ k,A.take k=B.take k -> k <= A.length -> k <= B.length -> lex c A B=lex c (A.drop k) (B.drop k)
 | 0,_,_,_=>rfl
 | k+1,h,h1,h2=>by
  cases A with
  | nil=>simp at h1
  | cons a s =>
   cases B with
   | nil=>simp at h2
   | cons b t =>
    simp only [List.take_succ_cons,List.cons.injEq] at h;obtain ⟨rfl,h⟩:=h;have e:=(hc.eq a a).2 rfl;rw [Go.Proofs.YtjffpimfngdggaaGreat.lex,if_pos e];exact jE hc s t k h (by simpa using h1) (by simpa using h2)
end
section
open Go.RowKit

theorem yv (x y:Int) (w:World):Calls Tryz.prog 138 #[.int .i64 x,.int .i64 y] w fun e w'=>e = .returned (.int .i64 (cmpI x y))/\Below w.heap.size w w':=(qK x y w).mono fun _ _ h=>⟨h.1,by rw [h.2];exact Below.refl _ _⟩
def orL:List Int -> Int
 | []=>0
 | a :: t=>if a=0 then orL t else a
theorem yr {α : Type} (L:List α) (k:Nat) (d : α) (h:k < L.length):L.drop k=L.getD k d :: L.drop (k+1):=by
 rw [List.drop_eq_getElem_cons h];simp [List.getD,h]
theorem zeE (ao:Option Addr) (n c:Nat) (Z:List Int) (w:World) (hS:V.Src w ao n c Z) (gn:n <= 17592186044415) :
  Calls Tryz.prog 137 #[.slice ao n c] w fun e w'=>e = .returned (.int .i64 (orL Z))/\Below w.heap.size w w':=by
 have HS:=hide hS;have HL:Hid (Z.length=n):=hS.1;clear hS;go_enter Tryz.func137,Tryz.ntmps137;go_wp2_with fail;go_loopw [8] (fun i wr=>∃ k:Nat,k <= n/\i = .int .i64 k/\Hid (orL Z=orL (Z.drop k))/\wr=w) (fun i _=>n - (intOf i).toNat)
 case atStart=>exact ⟨0,Nat.zero_le _,rfl,rfl,rfl⟩
 case round =>
  obtain ⟨k,hk,rfl,HO,rfl⟩:=hrel;by_cases hlt:k < n
  ·obtain ⟨ad,rfl,ca⟩:=HS.out.at k hlt;have HD:=hide (yr Z k 0 (by rw [HL.out];exact hlt));obtain ⟨z,Hz⟩:∃ z,Hid (Z.getD k 0=z):=⟨_,rfl⟩;rw [Hz.out] at ca HD;by_cases h0:z=0
   ·have h0':(z != 0)=false:=by simpa using h0
    have HN:Hid (orL Z=orL (Z.drop (k+1))):=by show _=_;rw [HO.out,HD.out,orL,if_pos h0]
    clear h0;go_wp2_with fail;go_roundw
    case rel=>exact ⟨k+1,by omega,by go_num,HN,by trivial⟩
    case measure=>simp [intOf];omega
   ·have h0':(z != 0)=true:=by simpa using h0
    have HN:Hid (orL Z=z):=by show _=_;rw [HO.out,HD.out,orL,if_neg h0]
    clear h0;go_wp2_with fail;go_ret;exact ⟨zG HN.out.symm,Below.refl _ _⟩
  ·obtain rfl:k=n:=by omega
   have HN:Hid (orL Z=0):=by show _=_;rw [HO.out,List.drop_of_length_le (by rw [HL.out];exact Nat.le_refl _)];rfl
   go_wp2_with fail;go_ret;exact ⟨zG HN.out.symm,Below.refl _ _⟩
section
variable {α : Type} {c : α -> α -> Int} {A B : List α} {k : Nat}
theorem zcQ (hc:Tot c) (h:A.take k=B.take k) (ha:k < A.length) (hb:B.length=k):lex c A B=1:=by
 rw [jE hc A B k h (by omega) (by omega),List.drop_of_length_le (l:=B) (by omega),List.drop_eq_getElem_cons ha];rfl
theorem zcR (hc:Tot c) (h:A.take k=B.take k) (ha:A.length=k) (hb:k < B.length):lex c A B = -1:=by
 rw [jE hc A B k h (by omega) (by omega),List.drop_of_length_le (l:=A) (by omega),List.drop_eq_getElem_cons hb];rfl
theorem zcP (hc:Tot c) (h:A.take k=B.take k) (ha:A.length=k) (hb:B.length=k):lex c A B=0:=by
 rw [jE hc A B k h (by omega) (by omega),List.drop_of_length_le (l:=A) (by omega),List.drop_of_length_le (l:=B) (by omega)];rfl
theorem zcS (hc:Tot c) (d : α) (h:A.take k=B.take k) (ha:k < A.length) (hb:k < B.length) (hn:¬ c (A.getD k d) (B.getD k d)=0):lex c A B=c (A.getD k d) (B.getD k d):=by
 rw [jE hc A B k h (by omega) (by omega),yr A k d ha,yr B k d hb,lex,if_neg hn]
theorem zec (hc:Tot c) (d : α) (h:A.take k=B.take k) (ha:k < A.length) (hb:k < B.length) (hn:c (A.getD k d) (B.getD k d)=0):A.take (k+1)=B.take (k+1):=by
 have e:=(hc.eq _ _).1 hn;rw [List.take_succ_eq_append_getElem ha,List.take_succ_eq_append_getElem hb,h];simp only [List.getD,List.getElem?_eq_getElem ha,List.getElem?_eq_getElem hb,Option.getD_some] at e;rw [e]
end
theorem bE (ao bo:Option Addr) (n cn m cm:Nat) (A B:List Int) (w:World) (hA:V.Src w ao n cn A) (hB:V.Src w bo m cm B) (gn:n <= 17592186044415) (_:m <= 17592186044415) :
  Calls Tryz.prog 205 #[.slice ao n cn,.slice bo m cm] w fun e w'=>e = .returned (.int .i64 (lex cmpI A B))/\Below w.heap.size w w':=by
 have HA:=hide hA;have HB:=hide hB;have HLA:Hid (A.length=n):=hA.1;have HLB:Hid (B.length=m):=hB.1;clear hA hB;go_enter Tryz.func205,Tryz.ntmps205;go_wp2_with fail;go_loopw [11] (fun i wr=>∃ k:Nat,k <= n/\i = .int .i64 k/\Hid (A.take k=B.take k/\k <= m)/\wr=w) (fun i _=>n - (intOf i).toNat)
 case atStart=>exact ⟨0,Nat.zero_le _,rfl,⟨rfl,Nat.zero_le _⟩,rfl⟩
 case round =>
  obtain ⟨k,hk,rfl,HO,rfl⟩:=hrel;have hkm:=HO.out.2;by_cases hlt:k < n
  ·obtain ⟨ad,rfl,ca⟩:=HA.out.at k hlt;by_cases hm:k < m
   ·obtain ⟨bd,rfl,cb⟩:=HB.out.at k hm
    have HAL:Hid (k < A.length):=by rw [HLA.out];exact hlt
    have HBL:Hid (k < B.length):=by rw [HLB.out];exact hm
    have hm':¬ (m:Int) <= (k:Int):=by omega
    by_cases h0:cmpI (A.getD k 0) (B.getD k 0)=0
    ·have HN:=hide (zec xr 0 HO.out.1 HAL.out HBL.out h0);obtain ⟨z,hz⟩:∃ z,cmpI (A.getD k 0) (B.getD k 0)=z:=⟨_,rfl⟩;have HZ:=hide hz;rw [hz] at h0;subst h0;clear hz;obtain ⟨x,hx⟩:∃ x,A.getD k 0=x:=⟨_,rfl⟩;obtain ⟨y,hy⟩:∃ y,B.getD k 0=y:=⟨_,rfl⟩;rw [hx] at ca HZ;rw [hy] at cb HZ;clear hx hy;go_wp2_with (go_at_call 138;refine (qK x y _).mono ?_;rintro e w' ⟨rfl,rfl⟩;rw [HZ.out]);go_roundw
     case rel=>exact ⟨k+1,by omega,by go_num,⟨HN.out,by omega⟩,by trivial⟩
     case measure=>simp [intOf];omega
    ·have HN:=hide (zcS xr 0 HO.out.1 HAL.out HBL.out h0);obtain ⟨z,hz⟩:∃ z,cmpI (A.getD k 0) (B.getD k 0)=z:=⟨_,rfl⟩;have HZ:=hide hz;rw [hz] at h0 HN
     have h0':(z != 0)=true:=by simpa using h0
     clear hz h0;obtain ⟨x,hx⟩:∃ x,A.getD k 0=x:=⟨_,rfl⟩;obtain ⟨y,hy⟩:∃ y,B.getD k 0=y:=⟨_,rfl⟩;rw [hx] at ca HZ;rw [hy] at cb HZ;clear hx hy;go_wp2_with (go_at_call 138;refine (qK x y _).mono ?_;rintro e w' ⟨rfl,rfl⟩;rw [HZ.out]);go_ret;exact ⟨zG HN.out.symm,Below.refl _ _⟩
   ·have hm':(m:Int) <= (k:Int):=by omega
    have HN:=hide (zcQ xr HO.out.1 (by rw [HLA.out];exact hlt) (by rw [HLB.out];omega));go_wp2_with fail;go_ret;exact ⟨zG HN.out.symm,Below.refl _ _⟩
  ·obtain rfl:k=n:=by omega
   by_cases hm:k < m
   ·have hm':(k:Int) < (m:Int):=by omega
    have HN:=hide (zcR xr HO.out.1 HLA.out (by rw [HLB.out];exact hm));go_wp2_with fail;go_ret;exact ⟨zG HN.out.symm,Below.refl _ _⟩
   ·have hm':¬ (k:Int) < (m:Int):=by omega
    have HN:=hide (zcP xr HO.out.1 HLA.out (by rw [HLB.out];omega));go_wp2_with fail;go_ret;exact ⟨zG HN.out.symm,Below.refl _ _⟩
end
end Go.Proofs.YtjffpimfngdggaaGreat
