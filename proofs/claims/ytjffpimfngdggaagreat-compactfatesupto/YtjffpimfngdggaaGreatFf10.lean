/- GBs GRe PRg PTw PBk PBl PCm PCq PCt SNe PCf LBase -/
import Derived.Deep.MidRow
import Derived.RegionTactic
import Derived.Test.YtjffpimfngdggaaGreatFf09
import Derived.WalkKit
import Derived.WalkSpells
import Derived.Deep.QuietTactic
import Derived.BigQuiet
set_option maxRecDepth 100000
set_option maxHeartbeats 4000000
namespace Go.Proofs.YtjffpimfngdggaaGreat
section
theorem xE (p:Addr) (m:Nat):(p.add m).block=p.block:=zs p m
theorem vS (p:Addr):p.add 0=p:=add_zero p
end
section
open Go.RowKit
variable {w w' : World} {g : Nat}
structure fi where
 sku:ByteArray
 veco:Option Addr
 vecn:Nat
 vecc:Nat
 cloudo:Option Addr
 cloudn:Nat
 cloudc:Nat
def re0:fi:=⟨⟨#[]⟩,none,0,0,none,0,0⟩
def ReC (m:fi):Array Value:=#[.string m.sku,.slice m.veco m.vecn m.vecc,.slice m.cloudo m.cloudn m.cloudc]
abbrev ReV (m:fi):Value:=.agg (ReC m)
theorem zS (m:fi):(ReC m).size=3:=rfl
theorem zi6 (m:fi):∀ v∈(ReC m).toList,v.oneCell'=true:=by
 intro v hv;simp [ReC] at hv;rcases hv with rfl | rfl | rfl <;> rfl
theorem zL (m:fi):(ReV m).cells=ReC m:=by simp [Value.cells]
structure iE (w:World) (a:Addr) (m:fi):Prop where
 c0:w.cell? a=some (.string m.sku)
 c1:w.cell? (a.add 1)=some (.slice m.veco m.vecn m.vecc)
 c2:w.cell? (a.add 2)=some (.slice m.cloudo m.cloudn m.cloudc)
theorem iE.on {a:Addr} {m:fi} (S:iE w a m) (hb:Below w.heap.size w w'):iE w' a m:=by
 have h0:=World.block_lt_of_cell? _ _ S.c0;exact ⟨by rw [hb.cell h0];exact S.c0,by rw [hb.cell (by rw [xE];exact h0)];exact S.c1,by rw [hb.cell (by rw [xE];exact h0)];exact S.c2⟩
def cg (w:World) (g:Nat) (m:fi):Prop:=w.heap[g]? = some (.cells (ReC m) 78 (0,0))
theorem cg.lt {m:fi} (h:cg w g m):g < w.heap.size:=(Array.getElem?_eq_some_iff.1 h).1
theorem cg.below {m:fi} (h:cg w g m) (hb:Below w.heap.size w w'):cg w' g m:=(hb.block g h.lt).trans h
theorem cg.c0 {m:fi} (h:cg w g m):w.cell? ⟨g,0,none⟩=some (.string m.sku):=by unfold cg at h;simp [World.cell?,h,ReC]
theorem cg.c1 {m:fi} (h:cg w g m):w.cell? ⟨g,1,none⟩=some (.slice m.veco m.vecn m.vecc):=by unfold cg at h;simp [World.cell?,h,ReC]
theorem cg.c2 {m:fi} (h:cg w g m):w.cell? ⟨g,2,none⟩=some (.slice m.cloudo m.cloudn m.cloudc):=by unfold cg at h;simp [World.cell?,h,ReC]
theorem qi (w:World) (m:fi):cg (w.alloc (.cells (ReC m) 78)) w.heap.size m:=by unfold cg;rw [heap_alloc_new]
def dY (v:Value):Sem Value:=Instr.loadAt 78 v
theorem qf (v:Value):Instr.loadAt 78 v=dY v:=rfl
def uK (p v:Value):Sem Unit:=Instr.storeAt 78 p v
theorem qe (p v:Value):Instr.storeAt 78 p v=uK p v:=rfl
theorem lD:(Tryz.prog.info? 78).map (·.size)=some 3:=by kernel_rfl
theorem cg.range {m:fi} (h:cg w g m):w.rangeAt g 0 (ReC m).toList:=by
 intro j v hv;rw [Nat.zero_add];unfold cg at h;simp only [Array.getElem?_toList] at hv;simp [World.cell?,h,hv]
theorem zcW {m:fi} (A:cg w g m):(loadVar 78 ⟨g,0,none⟩).run Tryz.prog w = .ok (ReV m) w:=by
 have:=run_loadVar_mid (P:=Tryz.prog) w g 0 78 (ReC m).toList _ A.range Tryz.underlying78 rfl (by rw [lD];rfl);simpa using this
theorem qK {m:fi} (A:cg w g m):(dY (.pointer (some ⟨g,0,none⟩))).run Tryz.prog w = .ok (.agg (ReC m)) w:=by
 unfold dY;simp only [Instr.loadAt,Instr.sureAddr,Sem.run_bind,Sem.run_pure,Result.andThen];exact zcW A
theorem zC {a:Addr} {m:fi} (A:iE w a m):(dY (.pointer (some a))).run Tryz.prog w = .ok (.agg (ReC m)) w:=by
 have hl:=run_loadCells_list (P:=Tryz.prog) (w:=w) a (ReC m).toList (fun j v hv=>by
  match j,hv with
  | 0,hv=>cases hv;rw [vS];exact A.c0
  | 1,hv=>cases hv;exact A.c1
  | 2,hv=>cases hv;exact A.c2
  | j+3,hv=>simp [ReC] at hv)
 unfold dY;simp only [Instr.loadAt,Instr.sureAddr,Sem.run_bind,Sem.run_pure,Result.andThen]
 cases hq:Tryz.prog.info? 78 with
 | none=>have:=lD;simp [hq] at this
 | some x =>
  have hs:x.size=3:=by have:=lD;simpa [hq] using this
  have ex:(isAgg 78).run Tryz.prog w = .ok true w:=by
   unfold isAgg;rw [Sem.run_bind,run_underlying Tryz.underlying78 w];rfl
  have e2:(ReC m).toList.length=3:=rfl;rw [e2] at hl;simp [loadVar,Sem.run_bind,ex,sizeOf,typeInfo,hq,hs,hl]
theorem zcU {m m':fi} (A:cg w g m):(uK (.pointer (some ⟨g,0,none⟩)) (.agg (ReC m'))).run Tryz.prog w = .ok () (w.setRow g (ReC m')):=by
 unfold uK;have h:=run_storeCells_from (P:=Tryz.prog) g 78 (ReC m').toList 0 (ReC m) w A (by simp [ReC]) (zi6 m')
 cases hq:Tryz.prog.info? 78 with
 | none=>have:=lD;simp [hq] at this
 | some x =>
  have hs:x.size=3:=by have:=lD;simpa [hq] using this
  simp only [Instr.storeAt,Instr.sureAddr,Sem.run_bind,Sem.run_pure,Result.andThen,storeVar,sizeOf,typeInfo,zL,zS];simp at h;simp [h,hq,hs]
theorem cg.setRow {m m':fi} (A:cg w g m):cg (w.setRow g (ReC m')) g m':=setRow_heap w g _ _ _ _ A
theorem gt (w:World) (m:fi) (g:Nat) (hg:w.heap.size=g):∃ w':World,(uK (.pointer (some ⟨g,0,none⟩)) (.agg (ReC m))).run Tryz.prog (w.alloc (.cells (ReC re0) 78)) = .ok () w'/\cg w' g m/\Below w.heap.size w w'/\w'.heap.size=w.heap.size+1:=by
 subst hg;refine ⟨_,zcU (qi w _),(qi w _).setRow,zh (ze w _) (Nat.le_refl _),by simp [World.setRow]⟩
theorem Cr {m:fi} {fn:Func} {p:Tmp} (h:fn.results=#[.cell p 78]) {tmps:Array Value} (hp:tmps.getD p undef = .pointer (some ⟨g,0,none⟩)) (A:cg w g m) :
  (results fn tmps).run Tryz.prog w = .ok (ReV m) w:=by
 have hl:=zcW A;simp only [results,h];rw [Array.getD_eq_getD_getElem?] at hp;simp [hp,asAddr,hl]
structure cw where
 addso:Option Addr
 addsn:Nat
 addsc:Nat
 veco:Option Addr
 vecn:Nat
 vecc:Nat
 cloudo:Option Addr
 cloudn:Nat
 cloudc:Nat
 recso:Option Addr
 recsn:Nat
 recsc:Nat
def fa0:cw:=⟨none,0,0,none,0,0,none,0,0,none,0,0⟩
def FaC (m:cw):Array Value:=#[.slice m.addso m.addsn m.addsc,.slice m.veco m.vecn m.vecc,.slice m.cloudo m.cloudn m.cloudc,.slice m.recso m.recsn m.recsc]
abbrev FaV (m:cw):Value:=.agg (FaC m)
theorem zr (m:cw):(FaC m).size=4:=rfl
theorem zgb (m:cw):∀ v∈(FaC m).toList,v.oneCell'=true:=by
 intro v hv;simp [FaC] at hv;rcases hv with rfl | rfl | rfl | rfl <;> rfl
theorem zl (m:cw):(FaV m).cells=FaC m:=by simp [Value.cells]
structure Cx (w:World) (a:Addr) (m:cw):Prop where
 c0:w.cell? a=some (.slice m.addso m.addsn m.addsc)
 c1:w.cell? (a.add 1)=some (.slice m.veco m.vecn m.vecc)
 c2:w.cell? (a.add 2)=some (.slice m.cloudo m.cloudn m.cloudc)
 c3:w.cell? (a.add 3)=some (.slice m.recso m.recsn m.recsc)
def aF (w:World) (g:Nat) (m:cw):Prop:=w.heap[g]? = some (.cells (FaC m) 29 (0,0))
theorem aF.lt {m:cw} (h:aF w g m):g < w.heap.size:=(Array.getElem?_eq_some_iff.1 h).1
theorem aF.below {m:cw} (h:aF w g m) (hb:Below w.heap.size w w'):aF w' g m:=(hb.block g h.lt).trans h
theorem aF.c0 {m:cw} (h:aF w g m):w.cell? ⟨g,0,none⟩=some (.slice m.addso m.addsn m.addsc):=by unfold aF at h;simp [World.cell?,h,FaC]
theorem aF.c1 {m:cw} (h:aF w g m):w.cell? ⟨g,1,none⟩=some (.slice m.veco m.vecn m.vecc):=by unfold aF at h;simp [World.cell?,h,FaC]
theorem aF.c2 {m:cw} (h:aF w g m):w.cell? ⟨g,2,none⟩=some (.slice m.cloudo m.cloudn m.cloudc):=by unfold aF at h;simp [World.cell?,h,FaC]
theorem aF.c3 {m:cw} (h:aF w g m):w.cell? ⟨g,3,none⟩=some (.slice m.recso m.recsn m.recsc):=by unfold aF at h;simp [World.cell?,h,FaC]
theorem zU (w:World) (m:cw):aF (w.alloc (.cells (FaC m) 29)) w.heap.size m:=by unfold aF;rw [heap_alloc_new]
def gN (v:Value):Sem Value:=Instr.loadAt 29 v
theorem zE (v:Value):Instr.loadAt 29 v=gN v:=rfl
def oU (p v:Value):Sem Unit:=Instr.storeAt 29 p v
theorem zD (p v:Value):Instr.storeAt 29 p v=oU p v:=rfl
theorem ll:(Tryz.prog.info? 29).map (·.size)=some 4:=by kernel_rfl
theorem aF.range {m:cw} (h:aF w g m):w.rangeAt g 0 (FaC m).toList:=by
 intro j v hv;rw [Nat.zero_add];unfold aF at h;simp only [Array.getElem?_toList] at hv;simp [World.cell?,h,hv]
theorem zai {m:cw} (A:aF w g m):(loadVar 29 ⟨g,0,none⟩).run Tryz.prog w = .ok (FaV m) w:=by
 have:=run_loadVar_mid (P:=Tryz.prog) w g 0 29 (FaC m).toList _ A.range Tryz.underlying29 rfl (by rw [ll];rfl);simpa using this
theorem zW {m:cw} (A:aF w g m):(gN (.pointer (some ⟨g,0,none⟩))).run Tryz.prog w = .ok (.agg (FaC m)) w:=by
 unfold gN;simp only [Instr.loadAt,Instr.sureAddr,Sem.run_bind,Sem.run_pure,Result.andThen];exact zai A
theorem kL {a:Addr} {m:cw} (A:Cx w a m):(gN (.pointer (some a))).run Tryz.prog w = .ok (.agg (FaC m)) w:=by
 have hl:=run_loadCells_list (P:=Tryz.prog) (w:=w) a (FaC m).toList (fun j v hv=>by
  match j,hv with
  | 0,hv=>cases hv;rw [vS];exact A.c0
  | 1,hv=>cases hv;exact A.c1
  | 2,hv=>cases hv;exact A.c2
  | 3,hv=>cases hv;exact A.c3
  | j+4,hv=>simp [FaC] at hv)
 unfold gN;simp only [Instr.loadAt,Instr.sureAddr,Sem.run_bind,Sem.run_pure,Result.andThen]
 cases hq:Tryz.prog.info? 29 with
 | none=>have:=ll;simp [hq] at this
 | some x =>
  have hs:x.size=4:=by have:=ll;simpa [hq] using this
  have ex:(isAgg 29).run Tryz.prog w = .ok true w:=by
   unfold isAgg;rw [Sem.run_bind,run_underlying Tryz.underlying29 w];rfl
  have e2:(FaC m).toList.length=4:=rfl;rw [e2] at hl;simp [loadVar,Sem.run_bind,ex,sizeOf,typeInfo,hq,hs,hl]
theorem kJ {m m':cw} (A:aF w g m):(oU (.pointer (some ⟨g,0,none⟩)) (.agg (FaC m'))).run Tryz.prog w = .ok () (w.setRow g (FaC m')):=by
 unfold oU;have h:=run_storeCells_from (P:=Tryz.prog) g 29 (FaC m').toList 0 (FaC m) w A (by simp [FaC]) (zgb m')
 cases hq:Tryz.prog.info? 29 with
 | none=>have:=ll;simp [hq] at this
 | some x =>
  have hs:x.size=4:=by have:=ll;simpa [hq] using this
  simp only [Instr.storeAt,Instr.sureAddr,Sem.run_bind,Sem.run_pure,Result.andThen,storeVar,sizeOf,typeInfo,zl,zr];simp at h;simp [h,hq,hs]
theorem aF.setRow {m m':cw} (A:aF w g m):aF (w.setRow g (FaC m')) g m':=setRow_heap w g _ _ _ _ A
theorem CL {m:cw} {fn:Func} {p:Tmp} (h:fn.results=#[.cell p 29]) {tmps:Array Value} (hp:tmps.getD p undef = .pointer (some ⟨g,0,none⟩)) (A:aF w g m) :
  (results fn tmps).run Tryz.prog w = .ok (FaV m) w:=by
 have hl:=zai A;simp only [results,h];rw [Array.getD_eq_getD_getElem?] at hp;simp [hp,asAddr,hl]
end
section
open Go.RowKit

def rq (n:Nat) (l:Array Bool):Nat:=(List.range n).countP (fun i => !l.getD i true)
theorem yE {p q:Nat -> Bool} {i:Nat}:∀ {xs:List Nat},(∀ j,q j=true -> p j=true) -> i∈xs -> p i=true -> q i=false -> xs.countP q < xs.countP p
 | [],_,h,_,_=>by cases h
 | x :: xs,Ag,h,hp,hq=>by
  have iV:xs.countP q <= xs.countP p:=List.countP_mono_left (fun j _=>Ag j);rcases List.mem_cons.1 h with rfl | h
  ·rw [List.countP_cons_of_neg (by simp [hq]),List.countP_cons_of_pos (by simp [hp])];omega
  ·have:=yE Ag h hp hq;rw [List.countP_cons,List.countP_cons];have hx:=Ag x
   cases hqx:q x with
   | true=>simp [hx hqx];exact this
   | false=>cases p x <;> simp <;> omega
theorem x4 {md:Region.Mode} {ops:Array Oper} {l:Array Bool} {i:Nat} (h:i∈Region.ready md ops l):i < ops.size/\l.getD i true=false/\∀ o,ops[i]? = some o -> ∀ e∈o.after,Region.binds md e=true -> l.getD e.on false=true:=by
 unfold Region.ready at h;rw [List.mem_filter,List.mem_range] at h;obtain ⟨h1,h2⟩:=h;simp only [Bool.and_eq_true,Bool.not_eq_true'] at h2;refine ⟨h1,h2.1,fun o ho e he hb=>?_⟩;have h3:=h2.2;rw [ho] at h3;simp only [Option.map_some,Option.getD_some] at h3;have:=Array.all_eq_true'.1 h3 e he;simpa [hb] using this
theorem zbn {md:Region.Mode} {ops:Array Oper} {l:Array Bool} (h:rq ops.size l=0):Region.ready md ops l=[]:=by
 unfold Region.ready;rw [List.filter_eq_nil_iff];intro i hi;have:=List.countP_eq_zero.1 h i hi;simp at this;simp [this]
theorem za3 {P:Program} {md:Region.Mode} {ops:Array Oper} {Q:Exit -> Act -> World -> Prop} (I:Array Bool -> Act -> World -> Prop) (hz:∀ l a w,I l a w -> l.size=ops.size)
  (hs:∀ l a w,I l a w -> ∀ i,i∈Region.ready md ops l -> wpOp P ops Q i (fun a' w'=>I (l.setIfInBounds i true) a' w') a w)
  (he:∀ l a w,I l a w -> Region.ready md ops l=[] -> Q .normal a w) :
  ∀ (fuel:Nat) (l:Array Bool) (a:Act) (w:World),I l a w -> rq ops.size l <= fuel -> wpAny P md ops Q fuel l a w
 | 0,l,a,w,h,hf=>⟨zbn (by omega),he l a w h (zbn (by omega))⟩
 | fuel+1,l,a,w,h,hf=>by
  refine ⟨he l a w h,fun i hi=>wpOp_mono (fun a' w' h'=>?_) (hs l a w h i hi)⟩;refine za3 I hz hs he fuel _ a' w' h' ?_;obtain ⟨h1,h2,_⟩:=x4 hi;have hl:=hz l a w h
  have:rq ops.size (l.setIfInBounds i true) < rq ops.size l:=by
   unfold rq;refine yE (i:=i) (fun j hj=>?_) (List.mem_range.2 h1) (by simp only [h2];rfl) ?_
   ·by_cases e:i=j
    ·subst e;simp [Array.getD,hl,h1] at hj
    ·simpa [Array.getD_eq_getD_getElem?,Array.getElem?_setIfInBounds,e] using hj
   ·simp [Array.getD,hl,h1]
  omega
theorem qP {P:Program} {ops:Array Oper} {Q:Exit -> Act -> World -> Prop} {id:Nat} {a:Act} {w:World} (hm:P.follows .mixedOrders=true) (I:Array Bool -> Act -> World -> Prop) (h0:I (Array.replicate ops.size false) a w.drew) (hz:∀ l a w,I l a w -> l.size=ops.size)
  (hs:∀ l a w,I l a w -> ∀ i,i∈Region.ready .any ops l -> wpOp P ops Q i (fun a' w'=>I (l.setIfInBounds i true) a' w') a w)
  (he:∀ l a w,I l a w -> Region.ready .any ops l=[] -> Q .normal a w):(Code.region id ops true).wp P Q a w:=
 wp_region_any hm (za3 I hz hs he _ _ _ _ h0 (by unfold rq;have:=List.countP_le_length (p:=fun i => !(Array.replicate ops.size false).getD i true) (l:=List.range ops.size);simpa using this))
def sM (ops:Array Oper):Bool:=(List.range ops.size).all fun i=>((ops[i]?).map fun o=>o.after.all fun e => !Region.binds .any e || decide (e.on < i)).getD true
theorem xS {ops:Array Oper} {l:Array Bool} (hb:sM ops=true) (hz:l.size=ops.size) (h:Region.ready .any ops l=[]):∀ i,i < ops.size -> l.getD i false=true:=by
 intro i
 induction i using Nat.strongRecOn with
 | _ i ih =>
  intro hi;unfold Region.ready at h;rw [List.filter_eq_nil_iff] at h;have h1:=h i (List.mem_range.2 hi);have h2:=List.all_eq_true.1 hb i (List.mem_range.2 hi);rw [Array.getElem?_eq_getElem hi] at h1 h2;simp only [Option.map_some,Option.getD_some] at h1 h2
  have h3:(ops[i].after.all fun e => !Region.binds .any e || l.getD e.on false)=true:=by
   rw [Array.all_eq_true'];intro e he;have:=Array.all_eq_true'.1 h2 e he
   cases hb:Region.binds .any e with
   | false=>simp
   | true =>
    simp only [hb,Bool.not_true,Bool.false_or,decide_eq_true_eq] at this;rw [ih e.on this (by omega)];simp
  rw [h3] at h1
  have hl:i < l.size:=by omega
  simp [Array.getD,hl] at h1 ⊢;exact h1
theorem qh {l:Array Bool} {i:Nat} (h:i < l.size):(l.setIfInBounds i true).getD i false=true:=by simp [Array.getD,h]
theorem zg {l:Array Bool} {i j:Nat} (h:i≠j):(l.setIfInBounds i true).getD j false=l.getD j false:=by simp [Array.getD_eq_getD_getElem?,h]
theorem vL {l:Array Bool} {i:Nat} (h:l.getD i true=false):l.getD i false=false:=by
 rw [Array.getD_eq_getD_getElem?] at h ⊢
 cases hq:l[i]? with
 | none=>rw [hq] at h;cases h
 | some x=>rw [hq] at h;exact h
theorem yg (n i:Nat):(Array.replicate n false).getD i false=false:=by
 rw [Array.getD_eq_getD_getElem?,Array.getElem?_replicate];split <;> rfl
end
section
open Go.RowKit

abbrev ptr (g:Nat):Value:=.pointer (some ⟨g,0,none⟩)
def lF:Nat -> Sl:=fun _=>sl0
structure cT (wk:World) (pa pb:Pv) (l:Array Bool) (W:World) (va xa ca vb xb cb ba bb:Value):Prop where
 sz:l.size=10
 b:Below wk.heap.size wk W
 h0:l.getD 0 false=true -> va=PV pa
 h1:l.getD 1 false=true -> l.getD 8 false=false -> ∃ g,xa = .slice (some ⟨g,0,none⟩) 1 1/\fN W (some ⟨g,0,none⟩) 1 [pa]
 h2:l.getD 2 false=true -> ∃ F,ca=SAv F/\dD wk.heap.size W F (aA [pa])/\(l.getD 6 false=true -> ∀ g,ba=ptr g -> eL F g)/\(l.getD 7 false=true -> ∀ g,bb=ptr g -> eL F g)
 h3:l.getD 3 false=true -> vb=PV pb
 h4:l.getD 4 false=true -> l.getD 8 false=false -> ∃ g,xb = .slice (some ⟨g,0,none⟩) 1 1/\fN W (some ⟨g,0,none⟩) 1 [pb]
 h5:l.getD 5 false=true -> ∃ F,cb=SAv F/\dD wk.heap.size W F (aA [pb])/\(l.getD 6 false=true -> ∀ g,ba=ptr g -> eL F g)/\(l.getD 7 false=true -> ∀ g,bb=ptr g -> eL F g)
 h6:l.getD 6 false=true -> ∃ g,ba=ptr g/\wk.heap.size <= g/\g < W.heap.size/\(l.getD 8 false=false -> cL W g lF)/\(l.getD 8 false=true -> ∀ F,ca=SAv F -> cL W g F)
 h7:l.getD 7 false=true -> ∃ g,bb=ptr g/\wk.heap.size <= g/\g < W.heap.size/\(l.getD 9 false=false -> cL W g lF)/\(l.getD 9 false=true -> ∀ F,cb=SAv F -> cL W g F)
 h67:l.getD 6 false=true -> l.getD 7 false=true -> ba≠bb
 c8:l.getD 8 false=true -> l.getD 2 false=true/\l.getD 5 false=true/\l.getD 6 false=true/\l.getD 7 false=true
 c9:l.getD 9 false=true -> l.getD 5 false=true/\l.getD 7 false=true
section
variable {wk : World} {pa pb : Pv} {l : Array Bool} {W W' : World} {va xa ca vb xb cb ba bb : Value}
theorem zjL {F G:Nat -> Sl} (h:SAv F=SAv G):SA F=SA G:=by injection h
theorem cL.same {w:World} {g:Nat} {F G:Nat -> Sl} (h:cL w g F) (e:SAv G=SAv F):cL w g G:=by unfold cL at h ⊢;rw [zjL e];exact h
theorem eL.lo {lo:Nat} {F:Nat -> Sl} {G:Nat -> List Rn} (h:dD lo W F G) {g:Nat} (hg:g < lo):eL F g:=fun r hr ad e=>by have:=h.lo r hr ad e;omega
theorem eL.hi {lo:Nat} {F:Nat -> Sl} {G:Nat -> List Rn} (h:dD lo W F G):eL F W.heap.size:=fun r hr ad e=>by have:=h.hi r hr ad e;omega
theorem xm {g g':Nat} (h:ptr g=ptr g'):g=g':=by simpa [ptr] using h
theorem cT.on (T:cT wk pa pb l W va xa ca vb xb cb ba bb) (hb:Below W.heap.size W W'):cT wk pa pb l W' va xa ca vb xb cb ba bb:=by
 refine ⟨T.sz,T.b.trans (hb.mono T.b.size),T.h0,fun h h'=>?_,fun h=>?_,T.h3,fun h h'=>?_,fun h=>?_,fun h=>?_,fun h=>?_,T.h67,T.c8,T.c9⟩
 ·obtain ⟨g,e,R⟩:=T.h1 h h';exact ⟨g,e,R.below hb⟩
 ·obtain ⟨F,e,R,f⟩:=T.h2 h;exact ⟨F,e,R.below hb,f⟩
 ·obtain ⟨g,e,R⟩:=T.h4 h h';exact ⟨g,e,R.below hb⟩
 ·obtain ⟨F,e,R,f⟩:=T.h5 h;exact ⟨F,e,R.below hb,f⟩
 ·obtain ⟨g,e,h1,h2,h3,h4⟩:=T.h6 h;exact ⟨g,e,h1,Nat.lt_of_lt_of_le h2 hb.size,fun q=>(h3 q).below hb,fun q F e=>(h4 q F e).below hb⟩
 ·obtain ⟨g,e,h1,h2,h3,h4⟩:=T.h7 h;exact ⟨g,e,h1,Nat.lt_of_lt_of_le h2 hb.size,fun q=>(h3 q).below hb,fun q F e=>(h4 q F e).below hb⟩
theorem cT.s0 (T:cT wk pa pb l W va xa ca vb xb cb ba bb):cT wk pa pb (l.setIfInBounds 0 true) W (PV pa) xa ca vb xb cb ba bb:=by
 refine ⟨by simpa using T.sz,T.b,fun _=>rfl,?_,?_,?_,?_,?_,?_,?_,?_,?_,?_⟩ <;> simp only [zg (show (0:Nat)≠1 by decide),zg (show (0:Nat)≠2 by decide),zg (show (0:Nat)≠3 by decide),zg (show (0:Nat)≠4 by decide),zg (show (0:Nat)≠5 by decide),zg (show (0:Nat)≠6 by decide),zg (show (0:Nat)≠7 by decide),zg (show (0:Nat)≠8 by decide),zg (show (0:Nat)≠9 by decide)]
 ·exact T.h1
 ·exact T.h2
 ·exact T.h3
 ·exact T.h4
 ·exact T.h5
 ·exact T.h6
 ·exact T.h7
 ·exact T.h67
 ·exact fun h=>by have:=T.c8 h;simp [this]
 ·exact fun h=>by have:=T.c9 h;simp [this]
theorem cT.s3 (T:cT wk pa pb l W va xa ca vb xb cb ba bb):cT wk pa pb (l.setIfInBounds 3 true) W va xa ca (PV pb) xb cb ba bb:=by
 refine ⟨by simpa using T.sz,T.b,?_,?_,?_,fun _=>rfl,?_,?_,?_,?_,?_,?_,?_⟩ <;> simp only [zg (show (3:Nat)≠0 by decide),zg (show (3:Nat)≠1 by decide),zg (show (3:Nat)≠2 by decide),zg (show (3:Nat)≠4 by decide),zg (show (3:Nat)≠5 by decide),zg (show (3:Nat)≠6 by decide),zg (show (3:Nat)≠7 by decide),zg (show (3:Nat)≠8 by decide),zg (show (3:Nat)≠9 by decide)]
 ·exact T.h0
 ·exact T.h1
 ·exact T.h2
 ·exact T.h4
 ·exact T.h5
 ·exact T.h6
 ·exact T.h7
 ·exact T.h67
 ·exact fun h=>by have:=T.c8 h;simp [this]
 ·exact fun h=>by have:=T.c9 h;simp [this]
theorem cT.s1 (T:cT wk pa pb l W va xa ca vb xb cb ba bb) (hS:am W pa):cT wk pa pb (l.setIfInBounds 1 true) (W.alloc (.cells (PC pa) 26)) va (.slice (some ⟨W.heap.size,0,none⟩) 1 1) ca vb xb cb ba bb:=by
 have T:=T.on (ze W (.cells (PC pa) 26));refine ⟨by simpa using T.sz,T.b,?_,fun _ _=>⟨_,rfl,kR W pa hS⟩,?_,?_,?_,?_,?_,?_,?_,?_,?_⟩ <;> simp only [zg (show (1:Nat)≠0 by decide),zg (show (1:Nat)≠2 by decide),zg (show (1:Nat)≠3 by decide),zg (show (1:Nat)≠4 by decide),zg (show (1:Nat)≠5 by decide),zg (show (1:Nat)≠6 by decide),zg (show (1:Nat)≠7 by decide),zg (show (1:Nat)≠8 by decide),zg (show (1:Nat)≠9 by decide)]
 ·exact T.h0
 ·exact T.h2
 ·exact T.h3
 ·exact T.h4
 ·exact T.h5
 ·exact T.h6
 ·exact T.h7
 ·exact T.h67
 ·exact fun h=>by have:=T.c8 h;simp [this]
 ·exact fun h=>by have:=T.c9 h;simp [this]
theorem cT.s4 (T:cT wk pa pb l W va xa ca vb xb cb ba bb) (hS:am W pb):cT wk pa pb (l.setIfInBounds 4 true) (W.alloc (.cells (PC pb) 26)) va xa ca vb (.slice (some ⟨W.heap.size,0,none⟩) 1 1) cb ba bb:=by
 have T:=T.on (ze W (.cells (PC pb) 26));refine ⟨by simpa using T.sz,T.b,?_,?_,?_,?_,fun _ _=>⟨_,rfl,kR W pb hS⟩,?_,?_,?_,?_,?_,?_⟩ <;> simp only [zg (show (4:Nat)≠0 by decide),zg (show (4:Nat)≠1 by decide),zg (show (4:Nat)≠2 by decide),zg (show (4:Nat)≠3 by decide),zg (show (4:Nat)≠5 by decide),zg (show (4:Nat)≠6 by decide),zg (show (4:Nat)≠7 by decide),zg (show (4:Nat)≠8 by decide),zg (show (4:Nat)≠9 by decide)]
 ·exact T.h0
 ·exact T.h1
 ·exact T.h2
 ·exact T.h3
 ·exact T.h5
 ·exact T.h6
 ·exact T.h7
 ·exact T.h67
 ·exact fun h=>by have:=T.c8 h;simp [this]
 ·exact fun h=>by have:=T.c9 h;simp [this]
theorem cT.s2 (T:cT wk pa pb l W va xa ca vb xb cb ba bb) (h8:l.getD 8 false=false) {F:Nat -> Sl} (R:dD W.heap.size W' F (aA [pa])) (hb:Below W.heap.size W W'):cT wk pa pb (l.setIfInBounds 2 true) W' va xa (SAv F) vb xb cb ba bb:=by
 have hl:=T.b.size;have T':=T.on hb
 have f6:l.getD 6 false=true -> ∀ g,ba=ptr g -> eL F g:=fun h g e=>by
  obtain ⟨g',e',_,h2,_⟩:=T.h6 h;obtain rfl:=xm (e.symm.trans e');exact eL.lo R h2
 have f7:l.getD 7 false=true -> ∀ g,bb=ptr g -> eL F g:=fun h g e=>by
  obtain ⟨g',e',_,h2,_⟩:=T.h7 h;obtain rfl:=xm (e.symm.trans e');exact eL.lo R h2
 refine ⟨by simpa using T.sz,T'.b,?_,?_,?_,?_,?_,?_,?_,?_,?_,?_,?_⟩ <;> simp only [qh (show 2 < l.size by rw [T.sz];decide),zg (show (2:Nat)≠0 by decide),zg (show (2:Nat)≠1 by decide),zg (show (2:Nat)≠3 by decide),zg (show (2:Nat)≠4 by decide),zg (show (2:Nat)≠5 by decide),zg (show (2:Nat)≠6 by decide),zg (show (2:Nat)≠7 by decide),zg (show (2:Nat)≠8 by decide),zg (show (2:Nat)≠9 by decide)]
 ·exact T'.h0
 ·exact T'.h1
 ·exact fun _=>⟨F,rfl,⟨R.src,R.eq,fun r hr ad e=>Nat.le_trans hl (R.lo r hr ad e),R.hi⟩,f6,f7⟩
 ·exact T'.h3
 ·exact T'.h4
 ·exact T'.h5
 ·intro h;obtain ⟨g,e,h1,h2,h3,_⟩:=T'.h6 h;exact ⟨g,e,h1,h2,h3,fun q=>absurd q (by rw [h8];decide)⟩
 ·exact T'.h7
 ·exact T'.h67
 ·exact fun h=>by have:=T.c8 h;simp [this]
 ·exact fun h=>by have:=T.c9 h;simp [this]
theorem cT.s5 (T:cT wk pa pb l W va xa ca vb xb cb ba bb) (h9:l.getD 9 false=false) {F:Nat -> Sl} (R:dD W.heap.size W' F (aA [pb])) (hb:Below W.heap.size W W'):cT wk pa pb (l.setIfInBounds 5 true) W' va xa ca vb xb (SAv F) ba bb:=by
 have hl:=T.b.size;have T':=T.on hb
 have f6:l.getD 6 false=true -> ∀ g,ba=ptr g -> eL F g:=fun h g e=>by
  obtain ⟨g',e',_,h2,_⟩:=T.h6 h;obtain rfl:=xm (e.symm.trans e');exact eL.lo R h2
 have f7:l.getD 7 false=true -> ∀ g,bb=ptr g -> eL F g:=fun h g e=>by
  obtain ⟨g',e',_,h2,_⟩:=T.h7 h;obtain rfl:=xm (e.symm.trans e');exact eL.lo R h2
 refine ⟨by simpa using T.sz,T'.b,?_,?_,?_,?_,?_,?_,?_,?_,?_,?_,?_⟩ <;> simp only [qh (show 5 < l.size by rw [T.sz];decide),zg (show (5:Nat)≠0 by decide),zg (show (5:Nat)≠1 by decide),zg (show (5:Nat)≠2 by decide),zg (show (5:Nat)≠3 by decide),zg (show (5:Nat)≠4 by decide),zg (show (5:Nat)≠6 by decide),zg (show (5:Nat)≠7 by decide),zg (show (5:Nat)≠8 by decide),zg (show (5:Nat)≠9 by decide)]
 ·exact T'.h0
 ·exact T'.h1
 ·exact T'.h2
 ·exact T'.h3
 ·exact T'.h4
 ·exact fun _=>⟨F,rfl,⟨R.src,R.eq,fun r hr ad e=>Nat.le_trans hl (R.lo r hr ad e),R.hi⟩,f6,f7⟩
 ·exact T'.h6
 ·intro h;obtain ⟨g,e,h1,h2,h3,_⟩:=T'.h7 h;exact ⟨g,e,h1,h2,h3,fun q=>absurd q (by rw [h9];decide)⟩
 ·exact T'.h67
 ·exact fun h=>by have:=T.c8 h;simp [this]
 ·exact fun h=>by have:=T.c9 h;simp [this]
theorem cT.s6 (T:cT wk pa pb l W va xa ca vb xb cb ba bb) (h8:l.getD 8 false=false):cT wk pa pb (l.setIfInBounds 6 true) (W.alloc (.cells (SA lF) 136)) va xa ca vb xb cb (ptr W.heap.size) bb:=by
 have hl:=T.b.size;have T':=T.on (ze W (.cells (SA lF) 136))
 have n7:l.getD 7 false=true -> ptr W.heap.size≠bb:=fun h e=>by
  obtain ⟨g',e',_,h2,_⟩:=T.h7 h;have:=xm (e.trans e');omega
 refine ⟨by simpa using T.sz,T'.b,?_,?_,?_,?_,?_,?_,?_,?_,?_,?_,?_⟩ <;> simp only [qh (show 6 < l.size by rw [T.sz];decide),zg (show (6:Nat)≠0 by decide),zg (show (6:Nat)≠1 by decide),zg (show (6:Nat)≠2 by decide),zg (show (6:Nat)≠3 by decide),zg (show (6:Nat)≠4 by decide),zg (show (6:Nat)≠5 by decide),zg (show (6:Nat)≠7 by decide),zg (show (6:Nat)≠8 by decide),zg (show (6:Nat)≠9 by decide)]
 ·exact T'.h0
 ·exact T'.h1
 ·intro h;obtain ⟨F,e,R,_,f7⟩:=T.h2 h;exact ⟨F,e,R.below (ze _ _),fun _ g eg=>by obtain rfl:=xm eg;exact eL.hi R,f7⟩
 ·exact T'.h3
 ·exact T'.h4
 ·intro h;obtain ⟨F,e,R,_,f7⟩:=T.h5 h;exact ⟨F,e,R.below (ze _ _),fun _ g eg=>by obtain rfl:=xm eg;exact eL.hi R,f7⟩
 ·exact fun _=>⟨_,rfl,hl,by simp,fun _=>jB W lF,fun q=>absurd q (by rw [h8];decide)⟩
 ·exact T'.h7
 ·exact fun _=>n7
 ·exact fun h=>by have:=T.c8 h;simp [this]
 ·exact fun h=>by have:=T.c9 h;simp [this]
theorem cT.s7 (T:cT wk pa pb l W va xa ca vb xb cb ba bb) (h9:l.getD 9 false=false):cT wk pa pb (l.setIfInBounds 7 true) (W.alloc (.cells (SA lF) 136)) va xa ca vb xb cb ba (ptr W.heap.size):=by
 have hl:=T.b.size;have T':=T.on (ze W (.cells (SA lF) 136))
 have n6:l.getD 6 false=true -> ba≠ptr W.heap.size:=fun h e=>by
  obtain ⟨g',e',_,h2,_⟩:=T.h6 h;have:=xm (e.symm.trans e');omega
 refine ⟨by simpa using T.sz,T'.b,?_,?_,?_,?_,?_,?_,?_,?_,?_,?_,?_⟩ <;> simp only [qh (show 7 < l.size by rw [T.sz];decide),zg (show (7:Nat)≠0 by decide),zg (show (7:Nat)≠1 by decide),zg (show (7:Nat)≠2 by decide),zg (show (7:Nat)≠3 by decide),zg (show (7:Nat)≠4 by decide),zg (show (7:Nat)≠5 by decide),zg (show (7:Nat)≠6 by decide),zg (show (7:Nat)≠8 by decide),zg (show (7:Nat)≠9 by decide)]
 ·exact T'.h0
 ·exact T'.h1
 ·intro h;obtain ⟨F,e,R,f6,_⟩:=T.h2 h;exact ⟨F,e,R.below (ze _ _),f6,fun _ g eg=>by obtain rfl:=xm eg;exact eL.hi R⟩
 ·exact T'.h3
 ·exact T'.h4
 ·intro h;obtain ⟨F,e,R,f6,_⟩:=T.h5 h;exact ⟨F,e,R.below (ze _ _),f6,fun _ g eg=>by obtain rfl:=xm eg;exact eL.hi R⟩
 ·exact T'.h6
 ·exact fun _=>⟨_,rfl,hl,by simp,fun _=>jB W lF,fun q=>absurd q (by rw [h9];decide)⟩
 ·exact fun h _=>n6 h
 ·exact fun h=>by have:=T.c8 h;simp [this]
 ·exact fun h=>by have:=T.c9 h;simp [this]
theorem cT.s8 (T:cT wk pa pb l W va xa ca vb xb cb ba bb) (h2:l.getD 2 false=true) (h5:l.getD 5 false=true) (h6:l.getD 6 false=true) (h7:l.getD 7 false=true) (h8:l.getD 8 false=false) :
  ∃ F g,ca=SAv F/\ba=ptr g/\cL W g lF/\cT wk pa pb (l.setIfInBounds 8 true) (W.setRow g (SA F)) va xa ca vb xb cb ba bb:=by
 obtain ⟨F,eF,RF,f6,f7⟩:=T.h2 h2;obtain ⟨g,eg,g1,g2,g3,_⟩:=T.h6 h6;refine ⟨F,g,eF,eg,g3 h8,?_⟩
 have hz:∀ cs:Array Value,(W.setRow g cs).heap.size=W.heap.size:=fun cs=>by simp [World.setRow]
 refine ⟨by simpa using T.sz,zh T.b g1,?_,?_,?_,?_,?_,?_,?_,?_,?_,?_,?_⟩ <;> simp only [qh (show 8 < l.size by rw [T.sz];decide),zg (show (8:Nat)≠0 by decide),zg (show (8:Nat)≠1 by decide),zg (show (8:Nat)≠2 by decide),zg (show (8:Nat)≠3 by decide),zg (show (8:Nat)≠4 by decide),zg (show (8:Nat)≠5 by decide),zg (show (8:Nat)≠6 by decide),zg (show (8:Nat)≠7 by decide),zg (show (8:Nat)≠9 by decide)]
 ·exact T.h0
 ·exact fun _ h=>by cases h
 ·exact fun h=>⟨F,eF,RF.off (f6 h6 g eg) _,f6,f7⟩
 ·exact T.h3
 ·exact fun _ h=>by cases h
 ·intro h;obtain ⟨G,eG,RG,k6,k7⟩:=T.h5 h;exact ⟨G,eG,RG.off (k6 h6 g eg) _,k6,k7⟩
 ·exact fun _=>⟨g,eg,g1,by rw [hz];exact g2,fun h=>(by cases h),fun _ F' e'=>((g3 h8).setRow (F':=F)).same (e'.symm.trans eF)⟩
 ·intro h;obtain ⟨g',e',k1,k2,k3,k4⟩:=T.h7 h;have cr:g'≠g:=fun e=>T.h67 h6 h (by rw [eg,e',e]);exact ⟨g',e',k1,by rw [hz];exact k2,fun q=>(setRow_other _ _ _ _ cr).trans (k3 q),fun q G eG=>(setRow_other _ _ _ _ cr).trans (k4 q G eG)⟩
 ·exact T.h67
 ·exact fun _=>by simp [h2,h5,h6,h7]
 ·exact fun h=>by have:=T.c9 h;simp [this]
theorem cT.s9 (T:cT wk pa pb l W va xa ca vb xb cb ba bb) (h5:l.getD 5 false=true) (h7:l.getD 7 false=true) (h8:l.getD 8 false=true) (h9:l.getD 9 false=false) :
  ∃ F g,cb=SAv F/\bb=ptr g/\cL W g lF/\cT wk pa pb (l.setIfInBounds 9 true) (W.setRow g (SA F)) va xa ca vb xb cb ba bb:=by
 obtain ⟨F,eF,RF,f6,f7⟩:=T.h5 h5;obtain ⟨g,eg,g1,g2,g3,_⟩:=T.h7 h7;refine ⟨F,g,eF,eg,g3 h9,?_⟩
 have hz:∀ cs:Array Value,(W.setRow g cs).heap.size=W.heap.size:=fun cs=>by simp [World.setRow]
 refine ⟨by simpa using T.sz,zh T.b g1,?_,?_,?_,?_,?_,?_,?_,?_,?_,?_,?_⟩ <;> simp only [qh (show 9 < l.size by rw [T.sz];decide),zg (show (9:Nat)≠0 by decide),zg (show (9:Nat)≠1 by decide),zg (show (9:Nat)≠2 by decide),zg (show (9:Nat)≠3 by decide),zg (show (9:Nat)≠4 by decide),zg (show (9:Nat)≠5 by decide),zg (show (9:Nat)≠6 by decide),zg (show (9:Nat)≠7 by decide),zg (show (9:Nat)≠8 by decide)]
 ·exact T.h0
 ·exact fun _ h=>by rw [h8] at h;cases h
 ·intro h;obtain ⟨G,eG,RG,k6,k7⟩:=T.h2 h;exact ⟨G,eG,RG.off (k7 h7 g eg) _,k6,k7⟩
 ·exact T.h3
 ·exact fun _ h=>by rw [h8] at h;cases h
 ·exact fun h=>⟨F,eF,RF.off (f7 h7 g eg) _,f6,f7⟩
 ·intro h;obtain ⟨g',e',k1,k2,k3,k4⟩:=T.h6 h;have cr:g'≠g:=fun e=>T.h67 h h7 (by rw [eg,e',e]);exact ⟨g',e',k1,by rw [hz];exact k2,fun q=>(setRow_other _ _ _ _ cr).trans (k3 q),fun q G eG=>(setRow_other _ _ _ _ cr).trans (k4 q G eG)⟩
 ·exact fun _=>⟨g,eg,g1,by rw [hz];exact g2,fun h=>(by cases h),fun _ F' e'=>((g3 h9).setRow (F':=F)).same (e'.symm.trans eF)⟩
 ·exact T.h67
 ·exact fun h=>by have:=T.c8 h;simp [this]
 ·exact fun _=>by simp [h5,h7]
theorem cT.all (T:cT wk pa pb l W va xa ca vb xb cb ba bb) (h:∀ i,i < 10 -> l.getD i false=true) :
  ∃ F G g g',va=PV pa/\vb=PV pb/\ca=SAv F/\cb=SAv G/\ba=ptr g/\bb=ptr g'/\g≠g'/\wk.heap.size <= g/\wk.heap.size <= g'/\cL W g F/\cL W g' G/\dD wk.heap.size W F (aA [pa])/\dD wk.heap.size W G (aA [pb])/\eL F g/\eL G g/\Below wk.heap.size wk W:=by
 obtain ⟨F,eF,RF,f6,_⟩:=T.h2 (h 2 (by decide));obtain ⟨G,eG,RG,k6,_⟩:=T.h5 (h 5 (by decide));obtain ⟨g,eg,g1,_,_,g4⟩:=T.h6 (h 6 (by decide));obtain ⟨g',eg',g1',_,_,g4'⟩:=T.h7 (h 7 (by decide));exact ⟨F,G,g,g',T.h0 (h 0 (by decide)),T.h3 (h 3 (by decide)),eF,eG,eg,eg',fun e=>T.h67 (h 6 (by decide)) (h 7 (by decide)) (by rw [eg,eg',e]),g1,g1',g4 (h 8 (by decide)) F eF,g4' (h 9 (by decide)) G eG,RF,RG,f6 (h 6 (by decide)) g eg,k6 (h 6 (by decide)) g eg,T.b⟩
theorem cT.start (wk:World) (pa pb:Pv) (va xa ca vb xb cb ba bb:Value):cT wk pa pb (Array.replicate 10 false) wk.drew va xa ca vb xb cb ba bb:=by
 refine ⟨by simp,zf wk,?_,?_,?_,?_,?_,?_,?_,?_,?_,?_,?_⟩ <;> simp only [yg] <;> (intro h;cases h)
end
end
section
open Go.RowKit

def dI (p:Pv) (g:Nat):Prop:=(0 < p.vn -> ∀ ad,p.vo=some ad -> ad.block≠g)/\(0 < p.cn -> ∀ ad,p.co=some ad -> ad.block≠g)
theorem dI.new {n g:Nat} {p:Pv} (h:dA n p) (hg:g < n):dI p g:=⟨fun _ ad e=>by have:=h.1 ad e;omega,fun _ ad e=>by have:=h.2 ad e;omega⟩
theorem dI.old {W:World} {p:Pv} (h:am W p) {g:Nat} (hg:W.heap.size <= g):dI p g:=by
 refine ⟨fun hn ad e he=>?_,fun hn ad e he=>?_⟩
 ·have:=World.block_lt_of_cell? _ _ (h.vec.2.2 ad e 0 hn);rw [zs] at this;omega
 ·have:=World.block_lt_of_cell? _ _ (h.cloud.cell ad e 0 hn).c0;rw [zs] at this;omega
theorem am.far {W W':World} {p:Pv} (h:am W p) {g:Nat} (hf:dI p g) (hk:∀ q,q≠g -> W'.heap[q]? = W.heap[q]?):am W' p:=by
 have ev:∀ ad,p.vo=some ad -> 0 < p.vn -> ∀ m,W'.cell? (ad.add m)=W.cell? (ad.add m):=fun ad e hn m=>by unfold World.cell?;rw [zs,hk _ (hf.1 hn ad e)]
 have ec:∀ ad,p.co=some ad -> 0 < p.cn -> ∀ m,W'.cell? (ad.add m)=W.cell? (ad.add m):=fun ad e hn m=>by unfold World.cell?;rw [zs,hk _ (hf.2 hn ad e)]
 refine ⟨⟨h.vec.1,h.vec.2.1,fun ad e t ht=>by rw [ev ad e (by omega)];exact h.vec.2.2 ad e t ht⟩,⟨h.cloud.len,h.cloud.nil,fun ad e t ht=>?_,h.cloud.big,h.cloud.cap⟩,h.big⟩;have A:=h.cloud.cell ad e t ht;have e':=ec ad e (by omega);exact ⟨by rw [e'];exact A.c0,by have:=A.c1;rw [qE] at this ⊢;rw [e'];exact this,by have:=A.c2;rw [qE] at this ⊢;rw [e'];exact this⟩
theorem zjM {p q:Pv} (h:PV p=PV q):PC p=PC q:=by injection h
theorem av.same {w:World} {g:Nat} {p q:Pv} (h:av w g p) (e:PV q=PV p):av w g q:=by unfold av at h ⊢;rw [zjM e];exact h
abbrev vat (vs:List Value) (i:Nat):Value:=vs.getD i undef
structure BI (n st:Nat) (wk:World) (Φ : Nat -> Value -> World -> Prop) (late:List Nat) (RL:List (Nat × (Pst -> Prop))) (AL:List (Nat × Nat × Nat)) (l:Array Bool) (W:World) (vs:List Value):Prop where
 sz:l.size=n
 ln:vs.length=n
 b:Below wk.heap.size wk W
 h:∀ i,i < n -> l.getD i false=true -> (i∈late -> l.getD st false=false) -> Φ i (vat vs i) W
 r:∀ x,x∈RL -> l.getD x.1 false=true -> ∃ p,vat vs x.1=PV p/\am W p/\x.2 p.P/\∀ y,y∈AL -> l.getD y.1 false=true -> ∀ g,vat vs y.1=ptr g -> dI p g
 a:∀ y,y∈AL -> l.getD y.1 false=true -> ∃ g,vat vs y.1=ptr g/\wk.heap.size <= g/\g < W.heap.size/\(l.getD y.2.1 false=false -> av W g pv0)/\(l.getD y.2.1 false=true -> ∀ p,vat vs y.2.2=PV p -> av W g p)
 d:∀ y z,y∈AL -> z∈AL -> y.1≠z.1 -> l.getD y.1 false=true -> l.getD z.1 false=true -> vat vs y.1≠vat vs z.1
 c:∀ y,y∈AL -> l.getD y.2.1 false=true -> l.getD y.1 false=true/\l.getD y.2.2 false=true/\l.getD st false=true
def rh (Φ : Nat -> Value -> World -> Prop):Prop:=∀ i x W W',Φ i x W -> Below W.heap.size W W' -> Φ i x W'
section
variable {n st : Nat} {wk : World} {Φ : Nat -> Value -> World -> Prop} {late : List Nat} {RL : List (Nat × (Pst -> Prop))} {AL : List (Nat × Nat × Nat)} {l : Array Bool} {W W' : World} {vs : List Value}
theorem j8 {i:Nat} {v:Value} (h:i < vs.length):vat (vs.set i v) i=v:=by simp [vat,List.getD,h]
theorem zF {i j:Nat} {v:Value} (h:i≠j):vat (vs.set i v) j=vat vs j:=by simp [vat,List.getD,h]
theorem BI.on (hm:rh Φ) (T:BI n st wk Φ late RL AL l W vs) (hb:Below W.heap.size W W'):BI n st wk Φ late RL AL l W' vs:=by
 refine ⟨T.sz,T.ln,T.b.trans (hb.mono T.b.size),fun i h1 h2 h3=>hm _ _ _ _ (T.h i h1 h2 h3) hb,fun x hx hl=>?_,fun y hy hl=>?_,T.d,T.c⟩
 ·obtain ⟨p,e,S,q,f⟩:=T.r x hx hl;exact ⟨p,e,S.below hb,q,f⟩
 ·obtain ⟨g,e,h1,h2,h3,h4⟩:=T.a y hy hl;exact ⟨g,e,h1,Nat.lt_of_lt_of_le h2 hb.size,fun q=>(h3 q).below hb,fun q p e=>(h4 q p e).below hb⟩
theorem BI.plain (hm:rh Φ) (T:BI n st wk Φ late RL AL l W vs) (hb:Below W.heap.size W W') (i:Nat) (hi:i < n) (hl:l.getD i false=false) (v:Value) (hΦ : Φ i v W') (h1:∀ x,x∈RL -> x.1≠i) (h2:∀ y,y∈AL -> y.1≠i/\y.2.1≠i) (h3:st≠i):BI n st wk Φ late RL AL (l.setIfInBounds i true) W' (vs.set i v):=by
 have T:=T.on hm hb
 have lO:i < vs.length:=by rw [T.ln];exact hi
 have rt:i < l.size:=by rw [T.sz];exact hi
 have st':(l.setIfInBounds i true).getD st false=l.getD st false:=zg (fun e=>h3 e.symm);refine ⟨by simpa using T.sz,by simpa using T.ln,T.b,fun j hj iK ak=>?_,fun x hx hlx=>?_,fun y hy hly=>?_,fun y z hy hz cr hly hlz=>?_,fun y hy hls=>?_⟩
 ·by_cases e:i=j
  ·subst e;rw [j8 lO];exact hΦ
  ·rw [zF e];rw [zg e] at iK;rw [st'] at ak;exact T.h j hj iK ak
 ·have nR:i≠x.1:=fun e=>h1 x hx e.symm;rw [zg nR] at hlx;rw [zF nR];obtain ⟨p,e,S,q,f⟩:=T.r x hx hlx;refine ⟨p,e,S,q,fun y hy hly=>?_⟩;have gz:i≠y.1:=fun e=>(h2 y hy).1 e.symm;rw [zg gz] at hly;rw [zF gz];exact f y hy hly
 ·have gz:i≠y.1:=fun e=>(h2 y hy).1 e.symm;have rd:i≠y.2.1:=fun e=>(h2 y hy).2 e.symm;rw [zg gz] at hly;rw [zF gz,zg rd];obtain ⟨g,e,g1,g2,g3,g4⟩:=T.a y hy hly;refine ⟨g,e,g1,g2,g3,fun hs=>?_⟩
  have D7:i≠y.2.2:=fun e=>by
   have:=(T.c y hy hs).2.1;rw [<- e,hl] at this
   cases this
  rw [zF D7];exact g4 hs
 ·have gz:i≠y.1:=fun e=>(h2 y hy).1 e.symm;have dw:i≠z.1:=fun e=>(h2 z hz).1 e.symm;rw [zg gz] at hly;rw [zg dw] at hlz;rw [zF gz,zF dw];exact T.d y z hy hz cr hly hlz
 ·have gz:i≠y.1:=fun e=>(h2 y hy).1 e.symm;have rd:i≠y.2.1:=fun e=>(h2 y hy).2 e.symm;rw [zg rd] at hls;have hc:=T.c y hy hls;rw [zg gz,st'];refine ⟨hc.1,?_,hc.2.2⟩;by_cases e:i=y.2.2
  ·rw [<- e];exact qh rt
  ·rw [zg e];exact hc.2.1
theorem BI.make (hm:rh Φ) (T:BI n st wk Φ late RL AL l W vs) (i s c:Nat) (hi:i < n) (hl:l.getD i false=false) (_:(i,s,c)∈AL) (hu:∀ y,y∈AL -> y.1=i -> y=(i,s,c)) (h1:∀ x,x∈RL -> x.1≠i) (h2:∀ y,y∈AL -> y.2.1≠i/\y.2.2≠i) (hΦ : ∀ v U,Φ i v U) (h3:st≠i):BI n st wk Φ late RL AL (l.setIfInBounds i true) (W.alloc (.cells (PC pv0) 26)) (vs.set i (ptr W.heap.size)):=by
 have T':=T.on hm (ze W (.cells (PC pv0) 26))
 have lO:i < vs.length:=by rw [T.ln];exact hi
 have rt:i < l.size:=by rw [T.sz];exact hi
 have st':(l.setIfInBounds i true).getD st false=l.getD st false:=zg (fun e=>h3 e.symm);refine ⟨by simpa using T.sz,by simpa using T.ln,T'.b,fun j hj iK ak=>?_,fun x hx hlx=>?_,fun y hy hly=>?_,fun y z hy hz cr hly hlz=>?_,fun y hy hls=>?_⟩
 ·by_cases e:i=j
  ·subst e;exact hΦ _ _
  ·rw [zF e];rw [zg e] at iK;rw [st'] at ak;exact T'.h j hj iK ak
 ·have nR:i≠x.1:=fun e=>h1 x hx e.symm;rw [zg nR] at hlx;rw [zF nR];obtain ⟨p,e,S,q,f⟩:=T.r x hx hlx;refine ⟨p,e,S.below (ze _ _),q,fun y hy hly g eg=>?_⟩;by_cases e1:i=y.1
  ·rw [<- e1,j8 lO] at eg;obtain rfl:=xm eg;exact dI.old S (Nat.le_refl _)
  ·rw [zg e1] at hly;rw [zF e1] at eg;exact f y hy hly g eg
 ·by_cases e1:i=y.1
  ·obtain rfl:=hu y hy e1.symm;refine ⟨W.heap.size,by rw [j8 lO],T.b.size,by simp,fun _=>zm W pv0,fun hs=>?_⟩;rw [zg (fun e=>(h2 _ hy).1 e.symm)] at hs;have:=(T.c _ hy hs).1;rw [hl] at this
   cases this
  ·have rd:i≠y.2.1:=fun e=>(h2 y hy).1 e.symm;rw [zg e1] at hly;rw [zF e1,zg rd,zF (fun e=>(h2 y hy).2 e.symm)];exact T'.a y hy hly
 ·by_cases e1:i=y.1
  ·have e2:i≠z.1:=fun e=>cr (by rw [<- e1,<- e]);rw [zg e2] at hlz;rw [<- e1,j8 lO,zF e2];obtain ⟨g,e,_,g2,_⟩:=T.a z hz hlz;intro h;have:=xm (h.trans e);omega
  ·rw [zg e1] at hly;rw [zF e1];by_cases e2:i=z.1
   ·rw [<- e2,j8 lO];obtain ⟨g,e,_,g2,_⟩:=T.a y hy hly;intro h;have:=xm (h.symm.trans e);omega
   ·rw [zg e2] at hlz;rw [zF e2];exact T.d y z hy hz cr hly hlz
 ·have rd:i≠y.2.1:=fun e=>(h2 y hy).1 e.symm;rw [zg rd] at hls;have hc:=T.c y hy hls;rw [st',zg (fun e=>(h2 y hy).2 e.symm)];refine ⟨?_,hc.2⟩;by_cases e:i=y.1
  ·rw [<- e];exact qh rt
  ·rw [zg e];exact hc.1
theorem BI.fill (T:BI n st wk Φ late RL AL l W vs) (i s c:Nat) (p:Pv) (hs:s < n) (hl:l.getD s false=false) (hA:(i,s,c)∈AL) (hu:∀ y,y∈AL -> y.2.1=s -> y=(i,s,c)) (hk:∀ y,y∈AL -> y.1=i -> y=(i,s,c)) (di:l.getD i false=true) (dc:l.getD c false=true) (dst:s=st∨l.getD st false=true) (hp:vat vs c=PV p) (h1:∀ x,x∈RL -> x.1≠s) (h2:∀ y,y∈AL -> y.1≠s/\y.2.2≠s)
  (hm:∀ j x U U',j ∉ late -> Φ j x U -> Φ j x U') (hΦ : ∀ v U,Φ s v U) (v:Value) :
  ∃ g,vat vs i=ptr g/\av W g pv0/\BI n st wk Φ late RL AL (l.setIfInBounds s true) (W.setRow g (PC p)) (vs.set s v):=by
 obtain ⟨g,eg,g1,g2,g3,_⟩:=T.a _ hA di
 have lO:s < vs.length:=by rw [T.ln];exact hs
 have BA:s < l.size:=by rw [T.sz];exact hs
 have cd:(l.setIfInBounds s true).getD st false=true:=by
  by_cases e:s=st
  ·rw [<- e];exact qh BA
  ·rw [zg e];exact dst.resolve_left e
 have hz:(W.setRow g (PC p)).heap.size=W.heap.size:=by simp [World.setRow]
 have ot:∀ q,q≠g -> (W.setRow g (PC p)).heap[q]? = W.heap[q]?:=fun q hq=>setRow_other _ _ _ _ hq;refine ⟨g,eg,g3 hl,by simpa using T.sz,by simpa using T.ln,zh T.b g1,fun j hj iK ak=>?_,fun x hx hlx=>?_,fun y hy hly=>?_,fun y z hy FS cr hly hlz=>?_,fun y hy hls=>?_⟩
 ·by_cases e:s=j
  ·subst e;exact hΦ _ _
  ·have iw:j ∉ late:=fun r6=>by have:=ak r6;rw [cd] at this;cases this
   rw [zF e];rw [zg e] at iK;exact hm j _ W _ iw (T.h j hj iK (fun r6=>absurd r6 iw))
 ·have nR:s≠x.1:=fun e=>h1 x hx e.symm;rw [zg nR] at hlx;rw [zF nR];obtain ⟨p',e',S',q',f⟩:=T.r x hx hlx;refine ⟨p',e',S'.far (f _ hA di g eg) ot,q',fun y hy hly=>?_⟩;have gz:s≠y.1:=fun e=>(h2 y hy).1 e.symm;rw [zg gz] at hly;rw [zF gz];exact f y hy hly
 ·have gz:s≠y.1:=fun e=>(h2 y hy).1 e.symm;rw [zg gz] at hly;rw [zF gz,zF (fun e=>(h2 y hy).2 e.symm)];by_cases e:y.1=i
  ·obtain rfl:=hk y hy e;refine ⟨g,eg,g1,by rw [hz];exact g2,fun h=>?_,fun _ q hq=>?_⟩
   ·rw [qh BA] at h;cases h
   ·have:av (W.setRow g (PC p)) g p:=setRow_heap _ _ _ _ _ _ (g3 hl);exact this.same (hq.symm.trans hp)
  ·obtain ⟨g',eg',k1,k2,k3,k4⟩:=T.a y hy hly;have cr:g'≠g:=fun h=>T.d y _ hy hA (by exact e) hly di (by rw [eg',h];exact eg.symm)
   have rd:s≠y.2.1:=fun h=>by have:=hu y hy h.symm;rw [this] at e;exact e rfl
   rw [zg rd];exact ⟨g',eg',k1,by rw [hz];exact k2,fun q=>(ot _ cr).trans (k3 q),fun q p' e'=>(ot _ cr).trans (k4 q p' e')⟩
 ·have gz:s≠y.1:=fun e=>(h2 y hy).1 e.symm;have dw:s≠z.1:=fun e=>(h2 z FS).1 e.symm;rw [zg gz] at hly;rw [zg dw] at hlz;rw [zF gz,zF dw];exact T.d y z hy FS cr hly hlz
 ·have gz:s≠y.1:=fun e=>(h2 y hy).1 e.symm;have D7:s≠y.2.2:=fun e=>(h2 y hy).2 e.symm;rw [zg gz,zg D7];by_cases e:s=y.2.1
  ·obtain rfl:=hu y hy e.symm;exact ⟨di,dc,cd⟩
  ·rw [zg e] at hls;have:=T.c y hy hls;exact ⟨this.1,this.2.1,cd⟩
theorem BI.start (n st:Nat) (wk:World) (Φ : Nat -> Value -> World -> Prop) (late:List Nat) (RL:List (Nat × (Pst -> Prop))) (AL:List (Nat × Nat × Nat)) (vs:List Value) (h:vs.length=n):BI n st wk Φ late RL AL (Array.replicate n false) wk.drew vs:=by
 refine ⟨by simp,h,zf wk,?_,?_,?_,?_,?_⟩ <;> simp only [yg]
 ·intro i _ h;cases h
 ·intro x _ h;cases h
 ·intro y _ h;cases h
 ·intro y z _ _ _ h;cases h
 ·intro y _ h;cases h
end
end
section
open Go.RowKit
attribute [local go_sem ↓] zq zp
attribute [local go_sem] zI zi qq zk qL
section
variable {n st : Nat} {wk : World} {Φ : Nat -> Value -> World -> Prop} {late : List Nat} {RL : List (Nat × (Pst -> Prop))} {AL : List (Nat × Nat × Nat)} {l : Array Bool} {W W' : World} {vs : List Value}
theorem BI.callF (hm:rh Φ) (T:BI n st wk Φ late RL AL l W vs) (hb:Below W.heap.size W W') (i:Nat) (S:Pst -> Prop) (hi:i < n) (hl:l.getD i false=false) (_:(i,S)∈RL) (hu:∀ x,x∈RL -> x.1=i -> x.2=S) (p:Pv) (hS:am W' p) (hF:∀ g,wk.heap.size <= g -> g < W.heap.size -> dI p g) (hp:S p.P) (hΦ : ∀ v U,Φ i v U) (h2:∀ y,y∈AL -> y.1≠i/\y.2.1≠i) (h3:st≠i):BI n st wk Φ late RL AL (l.setIfInBounds i true) W' (vs.set i (PV p)):=by
 have T':=T.on hm hb
 have lO:i < vs.length:=by rw [T.ln];exact hi
 have rt:i < l.size:=by rw [T.sz];exact hi
 have st':(l.setIfInBounds i true).getD st false=l.getD st false:=zg (fun e=>h3 e.symm);refine ⟨by simpa using T.sz,by simpa using T.ln,T'.b,fun j hj iK ak=>?_,fun x hx hlx=>?_,fun y hy hly=>?_,fun y z hy hz cr hly hlz=>?_,fun y hy hls=>?_⟩
 ·by_cases e:i=j
  ·subst e;exact hΦ _ _
  ·rw [zF e];rw [zg e] at iK;rw [st'] at ak;exact T'.h j hj iK ak
 ·by_cases e:i=x.1
  ·have e2:=hu x hx e.symm;refine ⟨p,by rw [<- e,j8 lO],hS,by rw [e2];exact hp,fun y hy hly g eg=>?_⟩;have gz:i≠y.1:=fun e=>(h2 y hy).1 e.symm;rw [zg gz] at hly;rw [zF gz] at eg;obtain ⟨g',e',g1,g2,_⟩:=T.a y hy hly;obtain rfl:=xm (eg.symm.trans e');exact hF _ g1 g2
  ·rw [zg e] at hlx;rw [zF e];obtain ⟨p',e',S',q',f⟩:=T'.r x hx hlx;refine ⟨p',e',S',q',fun y hy hly=>?_⟩;have gz:i≠y.1:=fun e=>(h2 y hy).1 e.symm;rw [zg gz] at hly;rw [zF gz];exact f y hy hly
 ·have gz:i≠y.1:=fun e=>(h2 y hy).1 e.symm;have rd:i≠y.2.1:=fun e=>(h2 y hy).2 e.symm;rw [zg gz] at hly;rw [zF gz,zg rd];obtain ⟨g,e,g1,g2,g3,g4⟩:=T'.a y hy hly;refine ⟨g,e,g1,g2,g3,fun hs=>?_⟩
  have D7:i≠y.2.2:=fun e=>by
   have:=(T.c y hy hs).2.1;rw [<- e,hl] at this
   cases this
  rw [zF D7];exact g4 hs
 ·have gz:i≠y.1:=fun e=>(h2 y hy).1 e.symm;have dw:i≠z.1:=fun e=>(h2 z hz).1 e.symm;rw [zg gz] at hly;rw [zg dw] at hlz;rw [zF gz,zF dw];exact T.d y z hy hz cr hly hlz
 ·have gz:i≠y.1:=fun e=>(h2 y hy).1 e.symm;have rd:i≠y.2.1:=fun e=>(h2 y hy).2 e.symm;rw [zg rd] at hls;have hc:=T.c y hy hls;rw [zg gz,st'];refine ⟨hc.1,?_,hc.2.2⟩;by_cases e:i=y.2.2
  ·rw [<- e];exact qh rt
  ·rw [zg e];exact hc.2.1
end
def lj (w w':World) (e:Ending) (p:Pv) (Q:Pst -> Prop):Prop:=∃ q:Pv,e = .returned (PV q)/\am w' q/\(q=p∨dA w.heap.size q)/\Below w.heap.size w w'/\Q q.P
theorem bt (a:Pv) (w:World) (hS:am w a):Calls Tryz.prog 204 #[PV a] w fun e w'=>lj w w' e a (af (aa a.P)):=by
 have b0:=ze w (.cells (PC a) 26);have b1:=ze (w.alloc (.cells (PC a) 26)) (.cells (PC pv0) 26);have AM:=zm (w.alloc (.cells (PC a) 26)) pv0;rw [World.size_alloc] at AM;have dT:=hide ((zm w a).below b1);have aM:=hide (b0.trans (b1.mono b0.size));have HS:=hide (hS.below aM);have rF:=hide hS;have fZ:=hide AM;clear hS b0 b1 AM;obtain ⟨wk,aL⟩:∃ wk,(w.alloc (.cells (PC a) 26)).alloc (.cells (PC pv0) 26)=wk:=⟨_,rfl⟩;rw [aL] at dT aM HS fZ
 have HZ:Hid (wk.heap.size=w.heap.size+2):=by show _=_;rw [<- aL];simp
 have l1:=zj dT.at
 go_enter Tryz.func204,Tryz.ntmps204;go_wp2_with fail;clear aL;refine (xd a _ HS).mono ?_;rintro e w1 ⟨b,rfl,hb,b2⟩;have NR:=hide hb;have cu:=wTr aM b2;have mi:=hide (fZ.below b2);have dZ:=hide (HS.below b2)
 have l2:=zj (dT.below b2).at
 have Mc:Hid (w.heap.size+2 <= w1.heap.size):=by have:=b2.size;have h:=HZ.out;show _ <= _;omega
 clear l1 hb b2 dT fZ HS aM HZ
 cases b with
 | true =>
  have s1:=qM (p':=a) mi.out;have df:Hid (av (w1.setRow (w.heap.size+1) (PC a)) (w.heap.size+1) a):=setRow_heap _ _ _ _ _ _ mi.out
  have iT:Hid (lj w (w1.setRow (w.heap.size+1) (PC a)) (.returned (PV a)) a (af (aa a.P))):=by
   have hf:=NR.out.1 rfl;exact ⟨a,rfl,dZ.far (dI.old rF.out (by omega)) (fun q hq=>setRow_other _ _ _ _ hq),Or.inl rfl,zh cu.out (by omega),kq hf.1 hf.2⟩
  go_wp2_with fail;exact bodyPost_ret (v:=PV a) (eR Tryz.results204 rfl df) rfl iT.out
 | false =>
  go_wp2_with fail;refine (jX a _ dZ).mono ?_;rintro e w2 ⟨p,rfl,S2,n2,b3,c2⟩;obtain ⟨s1,e1,e2,e3,e4⟩:=qu (w:=w) (mi.below b3) S2 (n2.mono (by have:=Mc.out;omega)) (cu.trans (b3.mono cu.size)) (by omega);have df:=hide e1;have iT:Hid (lj w (w2.setRow (w.heap.size+1) (PC p)) (.returned (PV p)) a (af (aa a.P))):=⟨p,rfl,e2,Or.inr e3,e4,c2⟩;clear S2 n2 b3 c2 e1 e2 e3 e4 l2;go_wp2_with fail;exact bodyPost_ret (v:=PV p) (eR Tryz.results204 rfl df) rfl iT.out
end
section

def lex {α : Type} (c : α -> α -> Int):List α -> List α -> Int
 | [],[]=>0
 | [],_ :: _ => -1
 | _ :: _,[]=>1
 | x :: s,y :: t=>if c x y=0 then lex c s t else c x y
structure Tot {α : Type} (c : α -> α -> Int):Prop where
 rng:∀ x y,c x y = -1∨c x y=0∨c x y=1
 neg:∀ x y,c y x = - c x y
 eq:∀ x y,c x y=0↔x=y
 tr:∀ x y z,c x y <= 0 -> c y z <= 0 -> c x z <= 0
theorem Tot.lt {α : Type} {c : α -> α -> Int} (h:Tot c) {x y z : α} (h1:c x y < 0) (h2:c y z <= 0):c x z < 0:=by
 have h3:=h.tr x y z (by omega) h2;by_cases e:c x z=0
 ·have:=(h.eq x z).1 e;subst this;have:=h.neg x y;omega
 ·omega
theorem xr:Tot az:=by
 refine ⟨fun x y=>?_,fun x y=>?_,fun x y=>?_,fun x y z=>?_⟩ <;> unfold az
 ·split
  ·omega
  ·split <;> omega
 ·split <;> split <;> (try split) <;> omega
 ·split
  ·omega
  ·split <;> omega
 ·intro h1 h2
  split at h1
  ·split at h2
   ·rw [if_pos (by omega)];omega
   ·split at h2
    ·omega
    ·rw [if_pos (by omega)];omega
  ·split at h1
   ·omega
   ·split at h2
    ·rw [if_pos (by omega)];omega
    ·split at h2
     ·omega
     ·rw [if_neg (by omega),if_neg (by omega)];omega
theorem Tot.lex {α : Type} {c : α -> α -> Int} (h:Tot c):Tot (lex c):=by
 refine ⟨?_,?_,?_,?_⟩
 ·intro x
  induction x with
  | nil=>intro y;cases y <;> simp [Go.Proofs.YtjffpimfngdggaaGreat.lex]
  | cons a s ih =>
   intro y
   cases y with
   | nil=>simp [Go.Proofs.YtjffpimfngdggaaGreat.lex]
   | cons b t =>
    simp only [Go.Proofs.YtjffpimfngdggaaGreat.lex]
    split
    ·exact ih t
    ·exact h.rng a b
 ·intro x
  induction x with
  | nil=>intro y;cases y <;> simp [Go.Proofs.YtjffpimfngdggaaGreat.lex]
  | cons a s ih =>
   intro y
   cases y with
   | nil=>simp [Go.Proofs.YtjffpimfngdggaaGreat.lex]
   | cons b t =>
    simp only [Go.Proofs.YtjffpimfngdggaaGreat.lex];have:=h.neg a b;by_cases e:c a b=0
    ·rw [if_pos e,if_pos (by omega)];exact ih t
    ·rw [if_neg e,if_neg (by omega)];exact this
 ·intro x
  induction x with
  | nil=>intro y;cases y <;> simp [Go.Proofs.YtjffpimfngdggaaGreat.lex]
  | cons a s ih =>
   intro y
   cases y with
   | nil=>simp [Go.Proofs.YtjffpimfngdggaaGreat.lex]
   | cons b t =>
    simp only [Go.Proofs.YtjffpimfngdggaaGreat.lex];by_cases e:c a b=0
    ·rw [if_pos e,ih t];have:=(h.eq a b).1 e;subst this;simp
    ·rw [if_neg e];constructor
     ·intro g;exact absurd g e
     ·intro g
      have:a=b:=by injection g
      exact absurd ((h.eq a b).2 this) e
 ·intro x
  induction x with
  | nil =>
   intro y z h1 h2
   cases z with
   | nil=>simp [Go.Proofs.YtjffpimfngdggaaGreat.lex]
   | cons d u=>simp [Go.Proofs.YtjffpimfngdggaaGreat.lex]
  | cons a s ih =>
   intro y z h1 h2
   cases y with
   | nil=>simp [Go.Proofs.YtjffpimfngdggaaGreat.lex] at h1
   | cons b t =>
    cases z with
    | nil=>simp [Go.Proofs.YtjffpimfngdggaaGreat.lex] at h2
    | cons d u =>
     simp only [Go.Proofs.YtjffpimfngdggaaGreat.lex] at h1 h2 ⊢;by_cases e1:c a b=0
     ·rw [if_pos e1] at h1;have:=(h.eq a b).1 e1;subst this;by_cases e2:c a d=0
      ·rw [if_pos e2] at h2 ⊢;exact ih t u h1 h2
      ·rw [if_neg e2] at h2 ⊢;exact h2
     ·rw [if_neg e1] at h1;by_cases e2:c b d=0
      ·have:=(h.eq b d).1 e2;subst this;rw [if_neg e1];exact h1
      ·rw [if_neg e2] at h2;have:=h.lt (x:=a) (y:=b) (z:=d) (by omega) h2;rw [if_neg (by omega)];omega
def both {α β γ : Type} (f : α -> β) (g : α -> γ) (c1 : β -> β -> Int) (c2 : γ -> γ -> Int) (x y : α):Int:=if c1 (f x) (f y)=0 then c2 (g x) (g y) else c1 (f x) (f y)
theorem Tot.both {α β γ : Type} {f : α -> β} {g : α -> γ} {c1 : β -> β -> Int} {c2 : γ -> γ -> Int} (h1:Tot c1) (h2:Tot c2) (hi:∀ x y,f x=f y -> g x=g y -> x=y):Tot (both f g c1 c2):=by
 refine ⟨fun x y=>?_,fun x y=>?_,fun x y=>?_,fun x y z=>?_⟩ <;> unfold Go.Proofs.YtjffpimfngdggaaGreat.both
 ·split
  ·exact h2.rng _ _
  ·exact h1.rng _ _
 ·have:=h1.neg (f x) (f y);by_cases e:c1 (f x) (f y)=0
  ·rw [if_pos e,if_pos (by omega)];exact h2.neg _ _
  ·rw [if_neg e,if_neg (by omega)];exact this
 ·by_cases e:c1 (f x) (f y)=0
  ·rw [if_pos e,h2.eq];exact ⟨fun k=>hi x y ((h1.eq _ _).1 e) k,fun k=>by rw [k]⟩
  ·rw [if_neg e];exact ⟨fun k=>absurd k e,fun k=>absurd ((h1.eq _ _).2 (by rw [k])) e⟩
 ·intro a b;by_cases e1:c1 (f x) (f y)=0
  ·rw [if_pos e1] at a;have q:=(h1.eq _ _).1 e1;rw [q];by_cases e2:c1 (f y) (f z)=0
   ·rw [if_pos e2] at b ⊢;exact h2.tr _ _ _ a b
   ·rw [if_neg e2] at b ⊢;exact b
  ·rw [if_neg e1] at a;by_cases e2:c1 (f y) (f z)=0
   ·have q:=(h1.eq _ _).1 e2;rw [<- q,if_neg e1];exact a
   ·rw [if_neg e2] at b;have:=h1.lt (x:=f x) (y:=f y) (z:=f z) (by omega) b;rw [if_neg (by omega)];omega
theorem zjf {x y:Sn} (h1:x.rep=y.rep) (h2:x.lo=y.lo) (h3:x.hi=y.hi):x=y:=by
 cases x;cases y;simp_all
def dr (x y:Sn):Int:=if az x.rep y.rep=0 then (if az x.lo y.lo=0 then az x.hi y.hi else az x.lo y.lo) else az x.rep y.rep
theorem xP:Tot dr:=by
 have h:Tot (both (fun x:Int × Int × Int=>x.1) (fun x=>x.2) az (both (fun x:Int × Int=>x.1) (fun x=>x.2) az az)):=
  Tot.both xr (Tot.both xr xr (fun x y h1 h2=>Prod.ext h1 h2)) (fun x y h1 h2=>Prod.ext h1 h2)
 have e:∀ x y,dr x y=both (fun x:Int × Int × Int=>x.1) (fun x=>x.2) az (both (fun x:Int × Int=>x.1) (fun x=>x.2) az az) (x.rep,x.lo,x.hi) (y.rep,y.lo,y.hi):=fun x y=>rfl;refine ⟨fun x y=>?_,fun x y=>?_,fun x y=>?_,fun x y z=>?_⟩
 ·rw [e];exact h.rng _ _
 ·rw [e,e];exact h.neg _ _
 ·rw [e,h.eq];constructor
  ·intro g;simp only [Prod.mk.injEq] at g;exact zjf g.1 g.2.1 g.2.2
  ·intro g;rw [g]
 ·rw [e,e,e];exact h.tr _ _ _
def fO (P Q:Pst):Int:=if lex az P.vec Q.vec=0 then lex dr P.cloud Q.cloud else lex az P.vec Q.vec
theorem zhr:Tot fO:=Tot.both (f:=Pst.vec) (g:=Pst.cloud) xr.lex xP.lex (fun x y h1 h2=>by cases x;cases y;simp_all)
theorem jL {α : Type} {c : α -> α -> Int} (hc:Tot c) (A B:List α):∀ k,A.take k=B.take k -> k <= A.length -> k <= B.length -> lex c A B=lex c (A.drop k) (B.drop k)
 | 0,_,_,_=>rfl
 | k+1,h,h1,h2=>by
  cases A with
  | nil=>simp at h1
  | cons a s =>
   cases B with
   | nil=>simp at h2
   | cons b t =>
    simp only [List.take_succ_cons,List.cons.injEq] at h;obtain ⟨rfl,h⟩:=h;have e:=(hc.eq a a).2 rfl;rw [Go.Proofs.YtjffpimfngdggaaGreat.lex,if_pos e];exact jL hc s t k h (by simpa using h1) (by simpa using h2)
end
section
open Go.RowKit

theorem yH (x y:Int) (w:World):Calls Tryz.prog 138 #[.int .i64 x,.int .i64 y] w fun e w'=>e = .returned (.int .i64 (az x y))/\Below w.heap.size w w':=(qC x y w).mono fun _ _ h=>⟨h.1,by rw [h.2];exact Below.refl _ _⟩
def orL:List Int -> Int
 | []=>0
 | a :: t=>if a=0 then orL t else a
theorem yD {α : Type} (L:List α) (k:Nat) (d : α) (h:k < L.length):L.drop k=L.getD k d :: L.drop (k+1):=by
 rw [List.drop_eq_getElem_cons h];simp [List.getD,h]
theorem ze0 (ao:Option Addr) (n c:Nat) (Z:List Int) (w:World) (hS:V.Src w ao n c Z) (gn:n <= 17592186044415) :
  Calls Tryz.prog 137 #[.slice ao n c] w fun e w'=>e = .returned (.int .i64 (orL Z))/\Below w.heap.size w w':=by
 have HS:=hide hS;have HL:Hid (Z.length=n):=hS.1;clear hS;go_enter Tryz.func137,Tryz.ntmps137;go_wp2_with fail;go_loopw [8] (fun i wr=>∃ k:Nat,k <= n/\i = .int .i64 k/\Hid (orL Z=orL (Z.drop k))/\wr=w) (fun i _=>n - (intOf i).toNat)
 case atStart=>exact ⟨0,Nat.zero_le _,rfl,rfl,rfl⟩
 case round =>
  obtain ⟨k,hk,rfl,HO,rfl⟩:=hrel;by_cases ak:k < n
  ·obtain ⟨ad,rfl,ca⟩:=HS.at k ak;have HD:=hide (yD Z k 0 (by rw [HL.out];exact ak));obtain ⟨z,Hz⟩:∃ z,Hid (Z.getD k 0=z):=⟨_,rfl⟩;rw [Hz.out] at ca HD;by_cases h0:z=0
   ·have mS:(z != 0)=false:=by simpa using h0
    have HN:Hid (orL Z=orL (Z.drop (k+1))):=by show _=_;rw [HO.out,HD.out,orL,if_pos h0]
    clear h0;go_wp2_with fail;go_roundw
    case rel=>exact ⟨k+1,by omega,by go_num,HN,by trivial⟩
    case measure=>simp [intOf];omega
   ·have mS:(z != 0)=true:=by simpa using h0
    have HN:Hid (orL Z=z):=by show _=_;rw [HO.out,HD.out,orL,if_neg h0]
    clear h0;go_wp2_with fail;go_ret;exact ⟨zK HN.symm,Below.refl _ _⟩
  ·obtain rfl:k=n:=by omega
   have HN:Hid (orL Z=0):=by show _=_;rw [HO.out,List.drop_of_length_le (by rw [HL.out];exact Nat.le_refl _)];rfl
   go_wp2_with fail;go_ret;exact ⟨zK HN.symm,Below.refl _ _⟩
section
variable {α : Type} {c : α -> α -> Int} {A B : List α} {k : Nat}
theorem zde (hc:Tot c) (h:A.take k=B.take k) (ha:k < A.length) (hb:B.length=k):lex c A B=1:=by
 rw [jL hc A B k h (by omega) (by omega),List.drop_of_length_le (l:=B) (by omega),List.drop_eq_getElem_cons ha];rfl
theorem zdf (hc:Tot c) (h:A.take k=B.take k) (ha:A.length=k) (hb:k < B.length):lex c A B = -1:=by
 rw [jL hc A B k h (by omega) (by omega),List.drop_of_length_le (l:=A) (by omega),List.drop_eq_getElem_cons hb];rfl
theorem zdd (hc:Tot c) (h:A.take k=B.take k) (ha:A.length=k) (hb:B.length=k):lex c A B=0:=by
 rw [jL hc A B k h (by omega) (by omega),List.drop_of_length_le (l:=A) (by omega),List.drop_of_length_le (l:=B) (by omega)];rfl
theorem zdg (hc:Tot c) (d : α) (h:A.take k=B.take k) (ha:k < A.length) (hb:k < B.length) (hn:¬ c (A.getD k d) (B.getD k d)=0):lex c A B=c (A.getD k d) (B.getD k d):=by
 rw [jL hc A B k h (by omega) (by omega),yD A k d ha,yD B k d hb,lex,if_neg hn]
theorem zez (hc:Tot c) (d : α) (h:A.take k=B.take k) (ha:k < A.length) (hb:k < B.length) (hn:c (A.getD k d) (B.getD k d)=0):A.take (k+1)=B.take (k+1):=by
 have e:=(hc.eq _ _).1 hn;rw [List.take_succ_eq_append_getElem ha,List.take_succ_eq_append_getElem hb,h];simp only [List.getD,List.getElem?_eq_getElem ha,List.getElem?_eq_getElem hb,Option.getD_some] at e;rw [e]
end
theorem bY (ao bo:Option Addr) (n cn m cm:Nat) (A B:List Int) (w:World) (hA:V.Src w ao n cn A) (hB:V.Src w bo m cm B) (gn:n <= 17592186044415) (_:m <= 17592186044415) :
  Calls Tryz.prog 205 #[.slice ao n cn,.slice bo m cm] w fun e w'=>e = .returned (.int .i64 (lex az A B))/\Below w.heap.size w w':=by
 have HA:=hide hA;have HB:=hide hB;have mN:Hid (A.length=n):=hA.1;have mM:Hid (B.length=m):=hB.1;clear hA hB;go_enter Tryz.func205,Tryz.ntmps205;go_wp2_with fail;go_loopw [11] (fun i wr=>∃ k:Nat,k <= n/\i = .int .i64 k/\Hid (A.take k=B.take k/\k <= m)/\wr=w) (fun i _=>n - (intOf i).toNat)
 case atStart=>exact ⟨0,Nat.zero_le _,rfl,⟨rfl,Nat.zero_le _⟩,rfl⟩
 case round =>
  obtain ⟨k,hk,rfl,HO,rfl⟩:=hrel;have Nj:=HO.2;by_cases ak:k < n
  ·obtain ⟨ad,rfl,ca⟩:=HA.at k ak;by_cases hm:k < m
   ·obtain ⟨bd,rfl,cb⟩:=HB.at k hm
    have fW:Hid (k < A.length):=by rw [mN.out];exact ak
    have ig:Hid (k < B.length):=by rw [mM.out];exact hm
    have r6:¬ (m:Int) <= (k:Int):=by omega
    by_cases h0:az (A.getD k 0) (B.getD k 0)=0
    ·have HN:=hide (zez xr 0 HO.1 fW.out ig.out h0);obtain ⟨z,hz⟩:∃ z,az (A.getD k 0) (B.getD k 0)=z:=⟨_,rfl⟩;have HZ:=hide hz;rw [hz] at h0;subst h0;clear hz;obtain ⟨x,hx⟩:∃ x,A.getD k 0=x:=⟨_,rfl⟩;obtain ⟨y,hy⟩:∃ y,B.getD k 0=y:=⟨_,rfl⟩;rw [hx] at ca HZ;rw [hy] at cb HZ;clear hx hy;go_wp2_with (go_at_call 138;refine (qC x y _).mono ?_;rintro e w' ⟨rfl,rfl⟩;rw [HZ.out]);go_roundw
     case rel=>exact ⟨k+1,by omega,by go_num,⟨HN.out,by omega⟩,by trivial⟩
     case measure=>simp [intOf];omega
    ·have HN:=hide (zdg xr 0 HO.1 fW.out ig.out h0);obtain ⟨z,hz⟩:∃ z,az (A.getD k 0) (B.getD k 0)=z:=⟨_,rfl⟩;have HZ:=hide hz;rw [hz] at h0 HN
     have mS:(z != 0)=true:=by simpa using h0
     clear hz h0;obtain ⟨x,hx⟩:∃ x,A.getD k 0=x:=⟨_,rfl⟩;obtain ⟨y,hy⟩:∃ y,B.getD k 0=y:=⟨_,rfl⟩;rw [hx] at ca HZ;rw [hy] at cb HZ;clear hx hy;go_wp2_with (go_at_call 138;refine (qC x y _).mono ?_;rintro e w' ⟨rfl,rfl⟩;rw [HZ.out]);go_ret;exact ⟨zK HN.symm,Below.refl _ _⟩
   ·have r6:(m:Int) <= (k:Int):=by omega
    have HN:=hide (zde xr HO.1 (by rw [mN.out];exact ak) (by rw [mM.out];omega));go_wp2_with fail;go_ret;exact ⟨zK HN.symm,Below.refl _ _⟩
  ·obtain rfl:k=n:=by omega
   by_cases hm:k < m
   ·have r6:(k:Int) < (m:Int):=by omega
    have HN:=hide (zdf xr HO.1 mN.out (by rw [mM.out];exact hm));go_wp2_with fail;go_ret;exact ⟨zK HN.symm,Below.refl _ _⟩
   ·have r6:¬ (k:Int) < (m:Int):=by omega
    have HN:=hide (zdd xr HO.1 mN.out (by rw [mM.out];omega));go_wp2_with fail;go_ret;exact ⟨zK HN.symm,Below.refl _ _⟩
end
section
open Go.RowKit
theorem EI (w:World) (x y z:Int) (C:Array Value) (hC:C=#[.int .i64 x,.int .i64 y,.int .i64 z]) (T:TypeId):V.Src (w.alloc (.cells C T)) (some ⟨w.heap.size,0,none⟩) 3 3 [x,y,z]:=by
 subst hC;refine ⟨rfl,fun h=>(by cases h),fun ad h t ht=>?_⟩;obtain rfl:=Option.some.inj h;rw [Addr.add_lit,Nat.zero_add,World.cell?_alloc_new]
 have:t=0∨t=1∨t=2:=by omega
 rcases this with rfl | rfl | rfl <;> rfl
attribute [local go_sem ↓] x9 jv
attribute [local go_sem] xV qD ky xf
theorem zjp (x y:Sn):orL [az x.rep y.rep,az x.lo y.lo,az x.hi y.hi]=dr x y:=by
 unfold dr;simp only [orL];by_cases e:az x.hi y.hi=0
 ·rw [if_pos e,e]
 ·rw [if_neg e]
theorem ziw (x y:Sn) (ao:Option Addr) (w:World) (hS:V.Src w ao 3 3 [az x.rep y.rep,az x.lo y.lo,az x.hi y.hi]) :
  Calls Tryz.prog 137 #[.slice ao 3 3] w fun e w'=>e = .returned (.int .i64 (dr x y))/\Below w.heap.size w w':=by
 rw [<- zjp];exact ze0 ao 3 3 _ w hS (by omega)
def PhC (sx sy:Sn) (w:World) (_:World):Nat -> Value -> World -> Prop
 | 0,x,_=>x = .pointer (some ⟨w.heap.size,0,none⟩)
 | 1,x,_=>x = .int .i64 sx.rep
 | 2,x,_=>x = .pointer (some ⟨w.heap.size+1,0,none⟩)
 | 3,x,_=>x = .int .i64 sy.rep
 | 4,x,_=>x = .int .i64 (az sx.rep sy.rep)
 | 5,x,_=>x = .pointer (some ⟨w.heap.size,1,none⟩)
 | 6,x,_=>x = .int .i64 sx.lo
 | 7,x,_=>x = .pointer (some ⟨w.heap.size+1,1,none⟩)
 | 8,x,_=>x = .int .i64 sy.lo
 | 9,x,_=>x = .int .i64 (az sx.lo sy.lo)
 | 10,x,_=>x = .pointer (some ⟨w.heap.size,2,none⟩)
 | 11,x,_=>x = .int .i64 sx.hi
 | 12,x,_=>x = .pointer (some ⟨w.heap.size+1,2,none⟩)
 | 13,x,_=>x = .int .i64 sy.hi
 | 14,x,_=>x = .int .i64 (az sx.hi sy.hi)
 | 15,x,W=>∃ g,x = .slice (some ⟨g,0,none⟩) 3 3/\V.Src W (some ⟨g,0,none⟩) 3 3 [az sx.rep sy.rep,az sx.lo sy.lo,az sx.hi sy.hi]
 | 16,x,_=>x = .int .i64 (dr sx sy)
 | 17,x,_=>x = .int .i64 (dr sx sy)
 | _,_,_=>True
theorem qr (sx sy:Sn) (w:World) (W0:World):rh (PhC sx sy w W0):=fun i x W W' h hb=>match i with
 | 0=>h
 | 1=>h
 | 2=>h
 | 3=>h
 | 4=>h
 | 5=>h
 | 6=>h
 | 7=>h
 | 8=>h
 | 9=>h
 | 10=>h
 | 11=>h
 | 12=>h
 | 13=>h
 | 14=>h
 | 15=>by obtain ⟨g,e,R⟩:=h;exact ⟨g,e,R.below hb⟩
 | 16=>h
 | 17=>h
 | _+18=>trivial
theorem stC {sx sy:Sn} {w wk:World} (HX:Hid (dC wk w.heap.size sx)) (HY:Hid (dC wk (w.heap.size+1) sy)) {Q:Exit -> Act -> World -> Prop} :
  ∀ (l:Array Bool) (x:Act) (W:World),(∃ v1x0 v1x1 v1x2 v1x3 v1x4 v1x5 v1x6 v1x7 v1x8 v1x9 v1x10 v1x11 v1x12 v1x13 v1x14 v1x15 v1x16 v1x17,x={ tmps:=#[SV sx,SV sy,ptr w.heap.size,ptr (w.heap.size+1),v1x17,v1x0,v1x1,v1x2,v1x3,v1x4,v1x5,v1x6,v1x7,v1x8,v1x9,v1x10,v1x11,v1x12,v1x13,v1x14,v1x15,v1x16],defers:=[] }/\BI 18 25 wk (PhC sx sy w wk) [] [] [] l W [v1x0,v1x1,v1x2,v1x3,v1x4,v1x5,v1x6,v1x7,v1x8,v1x9,v1x10,v1x11,v1x12,v1x13,v1x14,v1x15,v1x16,v1x17]) -> ∀ i,i∈Region.ready .any #[⟨some 5,.fieldAddr 104 (.tmp 2) 0,0, "sets.go:70",#[],none⟩,⟨some 6,.load 3 (.tmp 5),3, "sets.go:70",#[⟨0,.data⟩],none⟩,⟨some 7,.fieldAddr 104 (.tmp 3) 0,0, "sets.go:70",#[],none⟩,⟨some 8,.load 3 (.tmp 7),3, "sets.go:70",#[⟨2,.data⟩],none⟩,⟨some 9,.call ⟨.value (.func 138),#[.tmp 6,.tmp 8],#[3,3]⟩,3, "sets.go:70",#[⟨1,.data⟩,⟨3,.data⟩],none⟩,⟨some 10,.fieldAddr 104 (.tmp 2) 1,0, "sets.go:70",#[],none⟩,⟨some 11,.load 3 (.tmp 10),3, "sets.go:70",#[⟨5,.data⟩],none⟩,⟨some 12,.fieldAddr 104 (.tmp 3) 1,0, "sets.go:70",#[],none⟩,⟨some 13,.load 3 (.tmp 12),3, "sets.go:70",#[⟨7,.data⟩],none⟩,⟨some 14,.call ⟨.value (.func 138),#[.tmp 11,.tmp 13],#[3,3]⟩,3, "sets.go:70",#[⟨6,.data⟩,⟨8,.data⟩,⟨4,.chain⟩],none⟩,⟨some 15,.fieldAddr 104 (.tmp 2) 2,0, "sets.go:70",#[],none⟩,⟨some 16,.load 3 (.tmp 15),3, "sets.go:70",#[⟨10,.data⟩],none⟩,⟨some 17,.fieldAddr 104 (.tmp 3) 2,0, "sets.go:70",#[],none⟩,⟨some 18,.load 3 (.tmp 17),3, "sets.go:70",#[⟨12,.data⟩],none⟩,⟨some 19,.call ⟨.value (.func 138),#[.tmp 16,.tmp 18],#[3,3]⟩,3, "sets.go:70",#[⟨11,.data⟩,⟨13,.data⟩,⟨9,.chain⟩],none⟩,⟨some 20,.buildSlice 23 3 #[(0,.tmp 9),(1,.tmp 14),(2,.tmp 19)],23, "sets.go:70",#[⟨4,.data⟩,⟨9,.data⟩,⟨14,.data⟩],none⟩,⟨some 21,.call ⟨.value (.func 137),#[.tmp 20],#[23]⟩,3, "sets.go:70",#[⟨15,.data⟩,⟨14,.chain⟩],none⟩,⟨some 4,.assign (.tmp 21),3, "sets.go:70",#[⟨16,.data⟩,⟨16,.chain⟩,⟨0,.phase⟩,⟨1,.phase⟩,⟨2,.phase⟩,⟨3,.phase⟩,⟨4,.phase⟩,⟨5,.phase⟩,⟨6,.phase⟩,⟨7,.phase⟩,⟨8,.phase⟩,⟨9,.phase⟩,⟨10,.phase⟩,⟨11,.phase⟩,⟨12,.phase⟩,⟨13,.phase⟩,⟨14,.phase⟩,⟨15,.phase⟩,⟨16,.phase⟩],none⟩] l -> wpOp Tryz.prog #[⟨some 5,.fieldAddr 104 (.tmp 2) 0,0, "sets.go:70",#[],none⟩,⟨some 6,.load 3 (.tmp 5),3, "sets.go:70",#[⟨0,.data⟩],none⟩,⟨some 7,.fieldAddr 104 (.tmp 3) 0,0, "sets.go:70",#[],none⟩,⟨some 8,.load 3 (.tmp 7),3, "sets.go:70",#[⟨2,.data⟩],none⟩,⟨some 9,.call ⟨.value (.func 138),#[.tmp 6,.tmp 8],#[3,3]⟩,3, "sets.go:70",#[⟨1,.data⟩,⟨3,.data⟩],none⟩,⟨some 10,.fieldAddr 104 (.tmp 2) 1,0, "sets.go:70",#[],none⟩,⟨some 11,.load 3 (.tmp 10),3, "sets.go:70",#[⟨5,.data⟩],none⟩,⟨some 12,.fieldAddr 104 (.tmp 3) 1,0, "sets.go:70",#[],none⟩,⟨some 13,.load 3 (.tmp 12),3, "sets.go:70",#[⟨7,.data⟩],none⟩,⟨some 14,.call ⟨.value (.func 138),#[.tmp 11,.tmp 13],#[3,3]⟩,3, "sets.go:70",#[⟨6,.data⟩,⟨8,.data⟩,⟨4,.chain⟩],none⟩,⟨some 15,.fieldAddr 104 (.tmp 2) 2,0, "sets.go:70",#[],none⟩,⟨some 16,.load 3 (.tmp 15),3, "sets.go:70",#[⟨10,.data⟩],none⟩,⟨some 17,.fieldAddr 104 (.tmp 3) 2,0, "sets.go:70",#[],none⟩,⟨some 18,.load 3 (.tmp 17),3, "sets.go:70",#[⟨12,.data⟩],none⟩,⟨some 19,.call ⟨.value (.func 138),#[.tmp 16,.tmp 18],#[3,3]⟩,3, "sets.go:70",#[⟨11,.data⟩,⟨13,.data⟩,⟨9,.chain⟩],none⟩,⟨some 20,.buildSlice 23 3 #[(0,.tmp 9),(1,.tmp 14),(2,.tmp 19)],23, "sets.go:70",#[⟨4,.data⟩,⟨9,.data⟩,⟨14,.data⟩],none⟩,⟨some 21,.call ⟨.value (.func 137),#[.tmp 20],#[23]⟩,3, "sets.go:70",#[⟨15,.data⟩,⟨14,.chain⟩],none⟩,⟨some 4,.assign (.tmp 21),3, "sets.go:70",#[⟨16,.data⟩,⟨16,.chain⟩,⟨0,.phase⟩,⟨1,.phase⟩,⟨2,.phase⟩,⟨3,.phase⟩,⟨4,.phase⟩,⟨5,.phase⟩,⟨6,.phase⟩,⟨7,.phase⟩,⟨8,.phase⟩,⟨9,.phase⟩,⟨10,.phase⟩,⟨11,.phase⟩,⟨12,.phase⟩,⟨13,.phase⟩,⟨14,.phase⟩,⟨15,.phase⟩,⟨16,.phase⟩],none⟩] Q i (fun a' w'=>∃ v1x0 v1x1 v1x2 v1x3 v1x4 v1x5 v1x6 v1x7 v1x8 v1x9 v1x10 v1x11 v1x12 v1x13 v1x14 v1x15 v1x16 v1x17,a'={ tmps:=#[SV sx,SV sy,ptr w.heap.size,ptr (w.heap.size+1),v1x17,v1x0,v1x1,v1x2,v1x3,v1x4,v1x5,v1x6,v1x7,v1x8,v1x9,v1x10,v1x11,v1x12,v1x13,v1x14,v1x15,v1x16],defers:=[] }/\BI 18 25 wk (PhC sx sy w wk) [] [] [] (l.setIfInBounds i true) w' [v1x0,v1x1,v1x2,v1x3,v1x4,v1x5,v1x6,v1x7,v1x8,v1x9,v1x10,v1x11,v1x12,v1x13,v1x14,v1x15,v1x16,v1x17]) x W:=by
 rintro l x W ⟨v1x0,v1x1,v1x2,v1x3,v1x4,v1x5,v1x6,v1x7,v1x8,v1x9,v1x10,v1x11,v1x12,v1x13,v1x14,v1x15,v1x16,v1x17,rfl,T⟩ i hi;obtain ⟨cW,cX,aT⟩:=x4 hi;have aY:=vL cX
 have hc:i=0∨i=1∨i=2∨i=3∨i=4∨i=5∨i=6∨i=7∨i=8∨i=9∨i=10∨i=11∨i=12∨i=13∨i=14∨i=15∨i=16∨i=17:=by have h:i < 18:=cW;omega
 have HT:=hide T;clear T;rcases hc with rfl | rfl | rfl | rfl | rfl | rfl | rfl | rfl | rfl | rfl | rfl | rfl | rfl | rfl | rfl | rfl | rfl | rfl
 ·have HL:=hide aY;clear hi cW cX aT aY;refine wpOp_step (o:=⟨some 5,.fieldAddr 104 (.tmp 2) 0,0, "sets.go:70",#[],none⟩) rfl (fun K hK=>?_);go_simp;exact hK _ _ ⟨.pointer (some ⟨w.heap.size,0,none⟩),v1x1,v1x2,v1x3,v1x4,v1x5,v1x6,v1x7,v1x8,v1x9,v1x10,v1x11,v1x12,v1x13,v1x14,v1x15,v1x16,v1x17,rfl,HT.plain (qr sx sy w wk) (Below.refl _ _) 0 (by decide) HL.out _ rfl (by simp) (by simp) (by decide)⟩
 ·have d0:=aT _ rfl { on:=0,ground:=Ground.data } (by simp) rfl;have e0:v1x0 = .pointer (some ⟨w.heap.size,0,none⟩):=HT.h 0 (by decide) d0 (fun hm=>absurd hm (by decide));subst e0;have HL:=hide aY;clear hi cW cX aT aY d0;have c1:=(HX.below HT.b).at.1;refine wpOp_step (o:=⟨some 6,.load 3 (.tmp 5),3, "sets.go:70",#[⟨0,.data⟩],none⟩) rfl (fun K hK=>?_);go_simp;exact hK _ _ ⟨_,.int .i64 sx.rep,v1x2,v1x3,v1x4,v1x5,v1x6,v1x7,v1x8,v1x9,v1x10,v1x11,v1x12,v1x13,v1x14,v1x15,v1x16,v1x17,rfl,HT.plain (qr sx sy w wk) (Below.refl _ _) 1 (by decide) HL.out _ rfl (by simp) (by simp) (by decide)⟩
 ·have HL:=hide aY;clear hi cW cX aT aY;refine wpOp_step (o:=⟨some 7,.fieldAddr 104 (.tmp 3) 0,0, "sets.go:70",#[],none⟩) rfl (fun K hK=>?_);go_simp;exact hK _ _ ⟨v1x0,v1x1,.pointer (some ⟨w.heap.size+1,0,none⟩),v1x3,v1x4,v1x5,v1x6,v1x7,v1x8,v1x9,v1x10,v1x11,v1x12,v1x13,v1x14,v1x15,v1x16,v1x17,rfl,HT.plain (qr sx sy w wk) (Below.refl _ _) 2 (by decide) HL.out _ rfl (by simp) (by simp) (by decide)⟩
 ·have d2:=aT _ rfl { on:=2,ground:=Ground.data } (by simp) rfl;have e2:v1x2 = .pointer (some ⟨w.heap.size+1,0,none⟩):=HT.h 2 (by decide) d2 (fun hm=>absurd hm (by decide));subst e2;have HL:=hide aY;clear hi cW cX aT aY d2;have c1:=(HY.below HT.b).at.1;refine wpOp_step (o:=⟨some 8,.load 3 (.tmp 7),3, "sets.go:70",#[⟨2,.data⟩],none⟩) rfl (fun K hK=>?_);go_simp;exact hK _ _ ⟨v1x0,v1x1,_,.int .i64 sy.rep,v1x4,v1x5,v1x6,v1x7,v1x8,v1x9,v1x10,v1x11,v1x12,v1x13,v1x14,v1x15,v1x16,v1x17,rfl,HT.plain (qr sx sy w wk) (Below.refl _ _) 3 (by decide) HL.out _ rfl (by simp) (by simp) (by decide)⟩
 ·have d1:=aT _ rfl { on:=1,ground:=Ground.data } (by simp) rfl;have d3:=aT _ rfl { on:=3,ground:=Ground.data } (by simp) rfl;have e1:v1x1 = .int .i64 sx.rep:=HT.h 1 (by decide) d1 (fun hm=>absurd hm (by decide));subst e1;have e3:v1x3 = .int .i64 sy.rep:=HT.h 3 (by decide) d3 (fun hm=>absurd hm (by decide));subst e3;have HL:=hide aY;clear hi cW cX aT aY d1 d3;refine wpOp_step (o:=⟨some 9,.call ⟨.value (.func 138),#[.tmp 6,.tmp 8],#[3,3]⟩,3, "sets.go:70",#[⟨1,.data⟩,⟨3,.data⟩],none⟩) rfl (fun K hK=>?_);go_simp;go_wp2_with fail;refine (yH sx.rep sy.rep _).mono ?_;rintro e w' ⟨rfl,pb⟩;exact hK _ _ ⟨v1x0,_,v1x2,_,.int .i64 (az sx.rep sy.rep),v1x5,v1x6,v1x7,v1x8,v1x9,v1x10,v1x11,v1x12,v1x13,v1x14,v1x15,v1x16,v1x17,rfl,HT.plain (qr sx sy w wk) pb 4 (by decide) HL.out _ rfl (by simp) (by simp) (by decide)⟩
 ·have HL:=hide aY;clear hi cW cX aT aY;refine wpOp_step (o:=⟨some 10,.fieldAddr 104 (.tmp 2) 1,0, "sets.go:70",#[],none⟩) rfl (fun K hK=>?_);go_simp;exact hK _ _ ⟨v1x0,v1x1,v1x2,v1x3,v1x4,.pointer (some ⟨w.heap.size,1,none⟩),v1x6,v1x7,v1x8,v1x9,v1x10,v1x11,v1x12,v1x13,v1x14,v1x15,v1x16,v1x17,rfl,HT.plain (qr sx sy w wk) (Below.refl _ _) 5 (by decide) HL.out _ rfl (by simp) (by simp) (by decide)⟩
 ·have d5:=aT _ rfl { on:=5,ground:=Ground.data } (by simp) rfl;have e5:v1x5 = .pointer (some ⟨w.heap.size,1,none⟩):=HT.h 5 (by decide) d5 (fun hm=>absurd hm (by decide));subst e5;have HL:=hide aY;clear hi cW cX aT aY d5;have c1:=(HX.below HT.b).at.2.1;refine wpOp_step (o:=⟨some 11,.load 3 (.tmp 10),3, "sets.go:70",#[⟨5,.data⟩],none⟩) rfl (fun K hK=>?_);go_simp;exact hK _ _ ⟨v1x0,v1x1,v1x2,v1x3,v1x4,_,.int .i64 sx.lo,v1x7,v1x8,v1x9,v1x10,v1x11,v1x12,v1x13,v1x14,v1x15,v1x16,v1x17,rfl,HT.plain (qr sx sy w wk) (Below.refl _ _) 6 (by decide) HL.out _ rfl (by simp) (by simp) (by decide)⟩
 ·have HL:=hide aY;clear hi cW cX aT aY;refine wpOp_step (o:=⟨some 12,.fieldAddr 104 (.tmp 3) 1,0, "sets.go:70",#[],none⟩) rfl (fun K hK=>?_);go_simp;exact hK _ _ ⟨v1x0,v1x1,v1x2,v1x3,v1x4,v1x5,v1x6,.pointer (some ⟨w.heap.size+1,1,none⟩),v1x8,v1x9,v1x10,v1x11,v1x12,v1x13,v1x14,v1x15,v1x16,v1x17,rfl,HT.plain (qr sx sy w wk) (Below.refl _ _) 7 (by decide) HL.out _ rfl (by simp) (by simp) (by decide)⟩
 ·have d7:=aT _ rfl { on:=7,ground:=Ground.data } (by simp) rfl;have e7:v1x7 = .pointer (some ⟨w.heap.size+1,1,none⟩):=HT.h 7 (by decide) d7 (fun hm=>absurd hm (by decide));subst e7;have HL:=hide aY;clear hi cW cX aT aY d7;have c1:=(HY.below HT.b).at.2.1;refine wpOp_step (o:=⟨some 13,.load 3 (.tmp 12),3, "sets.go:70",#[⟨7,.data⟩],none⟩) rfl (fun K hK=>?_);go_simp;exact hK _ _ ⟨v1x0,v1x1,v1x2,v1x3,v1x4,v1x5,v1x6,_,.int .i64 sy.lo,v1x9,v1x10,v1x11,v1x12,v1x13,v1x14,v1x15,v1x16,v1x17,rfl,HT.plain (qr sx sy w wk) (Below.refl _ _) 8 (by decide) HL.out _ rfl (by simp) (by simp) (by decide)⟩
 ·have d6:=aT _ rfl { on:=6,ground:=Ground.data } (by simp) rfl;have d8:=aT _ rfl { on:=8,ground:=Ground.data } (by simp) rfl;have e6:v1x6 = .int .i64 sx.lo:=HT.h 6 (by decide) d6 (fun hm=>absurd hm (by decide));subst e6;have e8:v1x8 = .int .i64 sy.lo:=HT.h 8 (by decide) d8 (fun hm=>absurd hm (by decide));subst e8;have HL:=hide aY;clear hi cW cX aT aY d6 d8;refine wpOp_step (o:=⟨some 14,.call ⟨.value (.func 138),#[.tmp 11,.tmp 13],#[3,3]⟩,3, "sets.go:70",#[⟨6,.data⟩,⟨8,.data⟩,⟨4,.chain⟩],none⟩) rfl (fun K hK=>?_);go_simp;go_wp2_with fail;refine (yH sx.lo sy.lo _).mono ?_;rintro e w' ⟨rfl,pb⟩;exact hK _ _ ⟨v1x0,v1x1,v1x2,v1x3,v1x4,v1x5,_,v1x7,_,.int .i64 (az sx.lo sy.lo),v1x10,v1x11,v1x12,v1x13,v1x14,v1x15,v1x16,v1x17,rfl,HT.plain (qr sx sy w wk) pb 9 (by decide) HL.out _ rfl (by simp) (by simp) (by decide)⟩
 ·have HL:=hide aY;clear hi cW cX aT aY;refine wpOp_step (o:=⟨some 15,.fieldAddr 104 (.tmp 2) 2,0, "sets.go:70",#[],none⟩) rfl (fun K hK=>?_);go_simp;exact hK _ _ ⟨v1x0,v1x1,v1x2,v1x3,v1x4,v1x5,v1x6,v1x7,v1x8,v1x9,.pointer (some ⟨w.heap.size,2,none⟩),v1x11,v1x12,v1x13,v1x14,v1x15,v1x16,v1x17,rfl,HT.plain (qr sx sy w wk) (Below.refl _ _) 10 (by decide) HL.out _ rfl (by simp) (by simp) (by decide)⟩
 ·have d10:=aT _ rfl { on:=10,ground:=Ground.data } (by simp) rfl;have e10:v1x10 = .pointer (some ⟨w.heap.size,2,none⟩):=HT.h 10 (by decide) d10 (fun hm=>absurd hm (by decide));subst e10;have HL:=hide aY;clear hi cW cX aT aY d10;have c1:=(HX.below HT.b).at.2.2;refine wpOp_step (o:=⟨some 16,.load 3 (.tmp 15),3, "sets.go:70",#[⟨10,.data⟩],none⟩) rfl (fun K hK=>?_);go_simp;exact hK _ _ ⟨v1x0,v1x1,v1x2,v1x3,v1x4,v1x5,v1x6,v1x7,v1x8,v1x9,_,.int .i64 sx.hi,v1x12,v1x13,v1x14,v1x15,v1x16,v1x17,rfl,HT.plain (qr sx sy w wk) (Below.refl _ _) 11 (by decide) HL.out _ rfl (by simp) (by simp) (by decide)⟩
 ·have HL:=hide aY;clear hi cW cX aT aY;refine wpOp_step (o:=⟨some 17,.fieldAddr 104 (.tmp 3) 2,0, "sets.go:70",#[],none⟩) rfl (fun K hK=>?_);go_simp;exact hK _ _ ⟨v1x0,v1x1,v1x2,v1x3,v1x4,v1x5,v1x6,v1x7,v1x8,v1x9,v1x10,v1x11,.pointer (some ⟨w.heap.size+1,2,none⟩),v1x13,v1x14,v1x15,v1x16,v1x17,rfl,HT.plain (qr sx sy w wk) (Below.refl _ _) 12 (by decide) HL.out _ rfl (by simp) (by simp) (by decide)⟩
 ·have d12:=aT _ rfl { on:=12,ground:=Ground.data } (by simp) rfl;have e12:v1x12 = .pointer (some ⟨w.heap.size+1,2,none⟩):=HT.h 12 (by decide) d12 (fun hm=>absurd hm (by decide));subst e12;have HL:=hide aY;clear hi cW cX aT aY d12;have c1:=(HY.below HT.b).at.2.2;refine wpOp_step (o:=⟨some 18,.load 3 (.tmp 17),3, "sets.go:70",#[⟨12,.data⟩],none⟩) rfl (fun K hK=>?_);go_simp;exact hK _ _ ⟨v1x0,v1x1,v1x2,v1x3,v1x4,v1x5,v1x6,v1x7,v1x8,v1x9,v1x10,v1x11,_,.int .i64 sy.hi,v1x14,v1x15,v1x16,v1x17,rfl,HT.plain (qr sx sy w wk) (Below.refl _ _) 13 (by decide) HL.out _ rfl (by simp) (by simp) (by decide)⟩
 ·have d11:=aT _ rfl { on:=11,ground:=Ground.data } (by simp) rfl;have d13:=aT _ rfl { on:=13,ground:=Ground.data } (by simp) rfl;have e11:v1x11 = .int .i64 sx.hi:=HT.h 11 (by decide) d11 (fun hm=>absurd hm (by decide));subst e11;have e13:v1x13 = .int .i64 sy.hi:=HT.h 13 (by decide) d13 (fun hm=>absurd hm (by decide));subst e13;have HL:=hide aY;clear hi cW cX aT aY d11 d13;refine wpOp_step (o:=⟨some 19,.call ⟨.value (.func 138),#[.tmp 16,.tmp 18],#[3,3]⟩,3, "sets.go:70",#[⟨11,.data⟩,⟨13,.data⟩,⟨9,.chain⟩],none⟩) rfl (fun K hK=>?_);go_simp;go_wp2_with fail;refine (yH sx.hi sy.hi _).mono ?_;rintro e w' ⟨rfl,pb⟩;exact hK _ _ ⟨v1x0,v1x1,v1x2,v1x3,v1x4,v1x5,v1x6,v1x7,v1x8,v1x9,v1x10,_,v1x12,_,.int .i64 (az sx.hi sy.hi),v1x15,v1x16,v1x17,rfl,HT.plain (qr sx sy w wk) pb 14 (by decide) HL.out _ rfl (by simp) (by simp) (by decide)⟩
 ·have d4:=aT _ rfl { on:=4,ground:=Ground.data } (by simp) rfl;have d9:=aT _ rfl { on:=9,ground:=Ground.data } (by simp) rfl;have d14:=aT _ rfl { on:=14,ground:=Ground.data } (by simp) rfl;have e4:v1x4 = .int .i64 (az sx.rep sy.rep):=HT.h 4 (by decide) d4 (fun hm=>absurd hm (by decide));subst e4;have e9:v1x9 = .int .i64 (az sx.lo sy.lo):=HT.h 9 (by decide) d9 (fun hm=>absurd hm (by decide));subst e9;have e14:v1x14 = .int .i64 (az sx.hi sy.hi):=HT.h 14 (by decide) d14 (fun hm=>absurd hm (by decide));subst e14;have HL:=hide aY;clear hi cW cX aT aY d4 d9 d14;refine wpOp_step (o:=⟨some 20,.buildSlice 23 3 #[(0,.tmp 9),(1,.tmp 14),(2,.tmp 19)],23, "sets.go:70",#[⟨4,.data⟩,⟨9,.data⟩,⟨14,.data⟩],none⟩) rfl (fun K hK=>?_);go_simp;exact hK _ _ ⟨v1x0,v1x1,v1x2,v1x3,_,v1x5,v1x6,v1x7,v1x8,_,v1x10,v1x11,v1x12,v1x13,_,.slice (some ⟨W.heap.size,0,none⟩) 3 3,v1x16,v1x17,rfl,HT.plain (qr sx sy w wk) (ze _ _) 15 (by decide) HL.out _ ⟨_,rfl,EI W _ _ _ _ rfl _⟩ (by simp) (by simp) (by decide)⟩
 ·have d15:=aT _ rfl { on:=15,ground:=Ground.data } (by simp) rfl;obtain ⟨g15,e15,R15⟩:∃ g,v1x15 = .slice (some ⟨g,0,none⟩) 3 3/\V.Src W (some ⟨g,0,none⟩) 3 3 [az sx.rep sy.rep,az sx.lo sy.lo,az sx.hi sy.hi]:=HT.h 15 (by decide) d15 (fun hm=>absurd hm (by decide));subst e15;have Ik:=hide R15;clear R15;have HL:=hide aY;clear hi cW cX aT aY d15;refine wpOp_step (o:=⟨some 21,.call ⟨.value (.func 137),#[.tmp 20],#[23]⟩,3, "sets.go:70",#[⟨15,.data⟩,⟨14,.chain⟩],none⟩) rfl (fun K hK=>?_);go_simp;go_wp2_with fail;refine (ziw sx sy _ _ Ik).mono ?_;rintro e w' ⟨rfl,pb⟩;exact hK _ _ ⟨v1x0,v1x1,v1x2,v1x3,v1x4,v1x5,v1x6,v1x7,v1x8,v1x9,v1x10,v1x11,v1x12,v1x13,v1x14,_,.int .i64 (dr sx sy),v1x17,rfl,HT.plain (qr sx sy w wk) pb 16 (by decide) HL.out _ rfl (by simp) (by simp) (by decide)⟩
 ·have d16:=aT _ rfl { on:=16,ground:=Ground.data } (by simp) rfl;have e16:v1x16 = .int .i64 (dr sx sy):=HT.h 16 (by decide) d16 (fun hm=>absurd hm (by decide));subst e16;have HL:=hide aY;clear hi cW cX aT aY d16;refine wpOp_step (o:=⟨some 4,.assign (.tmp 21),3, "sets.go:70",#[⟨16,.data⟩,⟨16,.chain⟩,⟨0,.phase⟩,⟨1,.phase⟩,⟨2,.phase⟩,⟨3,.phase⟩,⟨4,.phase⟩,⟨5,.phase⟩,⟨6,.phase⟩,⟨7,.phase⟩,⟨8,.phase⟩,⟨9,.phase⟩,⟨10,.phase⟩,⟨11,.phase⟩,⟨12,.phase⟩,⟨13,.phase⟩,⟨14,.phase⟩,⟨15,.phase⟩,⟨16,.phase⟩],none⟩) rfl (fun K hK=>?_);go_simp;exact hK _ _ ⟨v1x0,v1x1,v1x2,v1x3,v1x4,v1x5,v1x6,v1x7,v1x8,v1x9,v1x10,v1x11,v1x12,v1x13,v1x14,v1x15,_,.int .i64 (dr sx sy),rfl,HT.plain (qr sx sy w wk) (Below.refl _ _) 17 (by decide) HL.out _ rfl (by simp) (by simp) (by decide)⟩
theorem wj (sx sy:Sn) (w:World):Calls Tryz.prog 207 #[SV sx,SV sy] w fun e w'=>e = .returned (.int .i64 (dr sx sy))/\Below w.heap.size w w':=by
 have b1:=ze w (.cells (SC sx) 104);have b2:=ze (w.alloc (.cells (SC sx) 104)) (.cells (SC sy) 104);have X1:=(qJ w sx).below b2;have X2:=qJ (w.alloc (.cells (SC sx) 104)) sy;rw [World.size_alloc] at X2;have HX:=hide X1;have HY:=hide X2;have i7:=hide (b1.trans (b2.mono b1.size));clear b1 b2 X1 X2;obtain ⟨wk,aL⟩:∃ wk,(w.alloc (.cells (SC sx) 104)).alloc (.cells (SC sy) 104)=wk:=⟨_,rfl⟩;rw [aL] at HX HY i7;go_enter Tryz.func207,Tryz.ntmps207;go_wp2_with fail;clear aL;refine qP (by kernel_rfl) (fun l x W=>∃ v1x0 v1x1 v1x2 v1x3 v1x4 v1x5 v1x6 v1x7 v1x8 v1x9 v1x10 v1x11 v1x12 v1x13 v1x14 v1x15 v1x16 v1x17,x={ tmps:=#[SV sx,SV sy,ptr w.heap.size,ptr (w.heap.size+1),v1x17,v1x0,v1x1,v1x2,v1x3,v1x4,v1x5,v1x6,v1x7,v1x8,v1x9,v1x10,v1x11,v1x12,v1x13,v1x14,v1x15,v1x16],defers:=[] }/\BI 18 25 wk (PhC sx sy w wk) [] [] [] l W [v1x0,v1x1,v1x2,v1x3,v1x4,v1x5,v1x6,v1x7,v1x8,v1x9,v1x10,v1x11,v1x12,v1x13,v1x14,v1x15,v1x16,v1x17]) ⟨undef,undef,undef,undef,undef,undef,undef,undef,undef,undef,undef,undef,undef,undef,undef,undef,undef,.int .i64 0,rfl,BI.start _ _ _ _ _ _ _ _ rfl⟩ ?_ ?_ ?_
 ·rintro l x W ⟨v1x0,v1x1,v1x2,v1x3,v1x4,v1x5,v1x6,v1x7,v1x8,v1x9,v1x10,v1x11,v1x12,v1x13,v1x14,v1x15,v1x16,v1x17,rfl,T⟩;exact T.sz
 ·exact stC HX HY
 ·rintro l x W ⟨v1x0,v1x1,v1x2,v1x3,v1x4,v1x5,v1x6,v1x7,v1x8,v1x9,v1x10,v1x11,v1x12,v1x13,v1x14,v1x15,v1x16,v1x17,rfl,T⟩ fJ;have aW:=fun i (hi:i < 18)=>xS (by kernel_rfl) T.sz fJ i hi;have HT:=hide T;clear T fJ;have e0:v1x0 = .pointer (some ⟨w.heap.size,0,none⟩):=HT.h 0 (by decide) (aW 0 (by decide)) (fun hm=>absurd hm (by decide));subst e0;have e1:v1x1 = .int .i64 sx.rep:=HT.h 1 (by decide) (aW 1 (by decide)) (fun hm=>absurd hm (by decide));subst e1;have e2:v1x2 = .pointer (some ⟨w.heap.size+1,0,none⟩):=HT.h 2 (by decide) (aW 2 (by decide)) (fun hm=>absurd hm (by decide));subst e2;have e3:v1x3 = .int .i64 sy.rep:=HT.h 3 (by decide) (aW 3 (by decide)) (fun hm=>absurd hm (by decide));subst e3;have e4:v1x4 = .int .i64 (az sx.rep sy.rep):=HT.h 4 (by decide) (aW 4 (by decide)) (fun hm=>absurd hm (by decide))
  subst e4;have e5:v1x5 = .pointer (some ⟨w.heap.size,1,none⟩):=HT.h 5 (by decide) (aW 5 (by decide)) (fun hm=>absurd hm (by decide));subst e5;have e6:v1x6 = .int .i64 sx.lo:=HT.h 6 (by decide) (aW 6 (by decide)) (fun hm=>absurd hm (by decide));subst e6;have e7:v1x7 = .pointer (some ⟨w.heap.size+1,1,none⟩):=HT.h 7 (by decide) (aW 7 (by decide)) (fun hm=>absurd hm (by decide));subst e7;have e8:v1x8 = .int .i64 sy.lo:=HT.h 8 (by decide) (aW 8 (by decide)) (fun hm=>absurd hm (by decide));subst e8;have e9:v1x9 = .int .i64 (az sx.lo sy.lo):=HT.h 9 (by decide) (aW 9 (by decide)) (fun hm=>absurd hm (by decide));subst e9;have e10:v1x10 = .pointer (some ⟨w.heap.size,2,none⟩):=HT.h 10 (by decide) (aW 10 (by decide)) (fun hm=>absurd hm (by decide));subst e10;have e11:v1x11 = .int .i64 sx.hi:=HT.h 11 (by decide) (aW 11 (by decide)) (fun hm=>absurd hm (by decide))
  subst e11;have e12:v1x12 = .pointer (some ⟨w.heap.size+1,2,none⟩):=HT.h 12 (by decide) (aW 12 (by decide)) (fun hm=>absurd hm (by decide));subst e12;have e13:v1x13 = .int .i64 sy.hi:=HT.h 13 (by decide) (aW 13 (by decide)) (fun hm=>absurd hm (by decide));subst e13;have e14:v1x14 = .int .i64 (az sx.hi sy.hi):=HT.h 14 (by decide) (aW 14 (by decide)) (fun hm=>absurd hm (by decide));subst e14;have e16:v1x16 = .int .i64 (dr sx sy):=HT.h 16 (by decide) (aW 16 (by decide)) (fun hm=>absurd hm (by decide));subst e16;have e17:v1x17 = .int .i64 (dr sx sy):=HT.h 17 (by decide) (aW 17 (by decide)) (fun hm=>absurd hm (by decide));subst e17;have by1:=HT.b
  rename World=>y1
  clear aW HT l;replace HX:=hide (HX.below by1);replace HY:=hide (HY.below by1);have sj:=wTr i7 by1;clear by1;go_wp2_with fail;go_ret;exact ⟨rfl,sj.out⟩
theorem yS (ao bo:Option Addr) (n cn m cm:Nat) (A B:List Sn) (w:World) (hA:cR w ao n cn A) (hB:cR w bo m cm B) :
  Calls Tryz.prog 206 #[.slice ao n cn,.slice bo m cm,.func (.func 207) #[] #[]] w fun e w'=>e = .returned (.int .i64 (lex dr A B))/\Below w.heap.size w w':=by
 have HA:=hide hA;have HB:=hide hB;have mN:=hide hA.len;have mM:=hide hB.len;have gn:=hA.big;have gm:=hB.big;clear hA hB;go_enter Tryz.func206,Tryz.ntmps206;go_wp2_with fail;go_loopw [13] (fun i wr=>∃ k:Nat,k <= n/\i = .int .i64 k/\Hid ((A.take k=B.take k/\k <= m)/\Below w.heap.size w wr)) (fun i _=>n - (intOf i).toNat)
 case atStart=>exact ⟨0,Nat.zero_le _,rfl,⟨rfl,Nat.zero_le _⟩,Below.refl _ _⟩
 case round =>
  obtain ⟨k,hk,rfl,HO⟩:=hrel
  rename World=>w6
  have Nj:=HO.1.2;by_cases ak:k < n
  ·obtain ⟨ad,cU,ca⟩:=(HA.below HO.2).at k ak;subst cU;obtain ⟨x,Hx⟩:∃ x,Hid (A.getD k sn0=x):=⟨_,rfl⟩;rw [Hx.out] at ca;have l1:=qk ca;obtain ⟨w7,cd,X7,b7,z7⟩:=iL w6 x w6.heap.size rfl;have t7:=hide X7;have dR:=hide (HO.2.trans (b7.mono HO.2.size));clear X7 ca;by_cases hm:k < m
   ·obtain ⟨bd,Gl,cb⟩:=((HB.below HO.2).below b7).at k hm;subst Gl;obtain ⟨y,Hy⟩:∃ y,Hid (B.getD k sn0=y):=⟨_,rfl⟩;rw [Hy.out] at cb;have l2:=qk cb;obtain ⟨w8,rZ,X8,b8,z8⟩:=iL w7 y w7.heap.size rfl;have gf:=hide X8;have IV:=hide (t7.below b8)
    obtain ⟨x0,x1,x2⟩:=IV.at
    obtain ⟨y0,y1,y2⟩:=X8.at
    have l3:=qk (⟨x0,x1,x2⟩:lB w8 ⟨w6.heap.size,0,none⟩ x);have l4:=qk (⟨y0,y1,y2⟩:lB w8 ⟨w7.heap.size,0,none⟩ y);have gA:=wTr dR b8
    have fW:Hid (k < A.length):=by rw [mN.out];exact ak
    have ig:Hid (k < B.length):=by rw [mM.out];exact hm
    have r6:¬ (m:Int) <= (k:Int):=by omega
    clear X8 cb b7 b8 z7 z8 x0 x1 x2 y0 y1 y2;have MV:Hid (dr x y=0 -> A.take (k+1)=B.take (k+1)):=fun h=>zez xP sn0 HO.1.1 fW.out ig.out (by rw [Hx.out,Hy.out];exact h)
    have Dn:Hid (¬ dr x y=0 -> lex dr A B=dr x y):=fun h=>by
     have:=zdg xP sn0 HO.1.1 fW.out ig.out (by rw [Hx.out,Hy.out];exact h);rw [Hx.out,Hy.out] at this;exact this
    go_wp2_with fail;refine (wj x y _).mono ?_;rintro e w9 ⟨rfl,b9⟩;have il:=wTr gA b9;clear b9 l1 l2 l3 l4 cd rZ;by_cases h0:dr x y=0
    ·have HN:=hide (MV.out h0);rw [h0];clear h0;go_wp2_with fail;go_roundw
     case rel=>exact ⟨k+1,by omega,by go_num,⟨HN.out,by omega⟩,il.out⟩
     case measure=>simp [intOf];omega
    ·have HN:=hide (Dn.out h0)
     have mS:(dr x y != 0)=true:=by simpa using h0
     clear h0;obtain ⟨z,hz⟩:∃ z,dr x y=z:=⟨_,rfl⟩;rw [hz] at mS HN ⊢;clear hz;go_wp2_with fail;go_ret;exact ⟨zK HN.symm,il.out⟩
   ·have r6:(m:Int) <= (k:Int):=by omega
    have HN:=hide (zde xP HO.1.1 (by rw [mN.out];exact ak) (by rw [mM.out];omega));clear b7 z7;go_wp2_with fail;go_ret;exact ⟨zK HN.symm,dR.out⟩
  ·obtain rfl:k=n:=by omega
   by_cases hm:k < m
   ·have r6:(k:Int) < (m:Int):=by omega
    have HN:=hide (zdf xP HO.1.1 mN.out (by rw [mM.out];exact hm));go_wp2_with fail;go_ret;exact ⟨zK HN.symm,HO.2⟩
   ·have r6:¬ (k:Int) < (m:Int):=by omega
    have HN:=hide (zdd xP HO.1.1 mN.out (by rw [mM.out];omega));go_wp2_with fail;go_ret;exact ⟨zK HN.symm,HO.2⟩
end
section

end
section
open Go.RowKit
attribute [local go_sem ↓] zq zp
attribute [local go_sem] zI zi qq zk qL
def cH (w w':World) (e:Ending) (P:Int -> Prop):Prop:=∃ k,e = .returned (.int .i64 k)/\P k/\Below w.heap.size w w'
def iN (P Q:Pst) (z:Int):Prop:=∃ X Y,af (aa P) X/\af (aa Q) Y/\z=fO X Y
theorem iN.unique {P Q:Pst} {z z':Int} (h:iN P Q z) (h':iN P Q z'):z=z':=by
 obtain ⟨X,Y,hX,hY,rfl⟩:=h;obtain ⟨X',Y',L3,MZ,rfl⟩:=h';rw [hX.unique L3 (fun _ _ _=>Iff.rfl),hY.unique MZ (fun _ _ _=>Iff.rfl)]
def PhE (a b:Pv) (_:World) (_:World):Nat -> Value -> World -> Prop
 | 0,x,_=>x=PV a
 | 2,x,_=>x=PV b
 | _,_,_=>True
theorem km (a b:Pv) (w:World) (W0:World):rh (PhE a b w W0):=fun i _ _ _ h _=>match i with
 | 0=>h
 | 2=>h
 | 1=>trivial
 | 3=>trivial
 | 4=>trivial
 | 5=>trivial
 | 6=>trivial
 | 7=>trivial
 | _+8=>trivial
theorem zf9 (a b:Pv) (w:World) (W0:World):∀ j x U U',j ∉ [] -> PhE a b w W0 j x U -> PhE a b w W0 j x U':=fun j _ _ _ _ h=>match j with
 | 0=>h
 | 2=>h
 | 1=>trivial
 | 3=>trivial
 | 4=>trivial
 | 5=>trivial
 | 6=>trivial
 | 7=>trivial
 | _+8=>trivial
theorem stE {a b:Pv} {w wk:World} (dT:Hid (av wk w.heap.size a)) (eN:Hid (av wk (w.heap.size+1) b)) (HA:Hid (am wk a)) (HB:Hid (am wk b)) {Q:Exit -> Act -> World -> Prop} :
  ∀ (l:Array Bool) (x:Act) (W:World),(∃ v1x0 v1x1 v1x2 v1x3 v1x4 v1x5,x={ tmps:=#[PV a,PV b,ptr w.heap.size,ptr (w.heap.size+1),.int .i64 0,v1x4,v1x5,undef,v1x0,v1x1,v1x2,v1x3,undef,undef,undef,undef,undef,undef,undef,undef,undef,undef,undef,undef,undef],defers:=[] }/\BI 8 6 wk (PhE a b w wk) [] [(1,af (aa a.P)),(3,af (aa b.P))] [(4,6,1),(5,7,3)] l W [v1x0,v1x1,v1x2,v1x3,v1x4,v1x5,undef,undef]) -> ∀ i,i∈Region.ready .any #[⟨some 8,.load 26 (.tmp 2),26, "sets.go:53",#[],none⟩,⟨some 9,.call ⟨.value (.func 204),#[.tmp 8],#[26]⟩,26, "sets.go:53",#[⟨0,.data⟩],none⟩,⟨some 10,.load 26 (.tmp 3),26, "sets.go:53",#[],none⟩,⟨some 11,.call ⟨.value (.func 204),#[.tmp 10],#[26]⟩,26, "sets.go:53",#[⟨2,.data⟩,⟨1,.chain⟩],none⟩,⟨some 5,.alloc 26,0, "sets.go:53",#[],none⟩,⟨some 6,.alloc 26,0, "sets.go:53",#[],none⟩,⟨none,.store 26 (.tmp 5) (.tmp 9),0, "sets.go:53",#[⟨4,.data⟩,⟨1,.data⟩,⟨3,.chain⟩,⟨0,.phase⟩,⟨1,.phase⟩,⟨2,.textOnly .lateStores⟩,⟨3,.textOnly .lateStoresUnsure⟩,⟨4,.phase⟩,⟨5,.phase⟩],none⟩,⟨none,.store 26 (.tmp 6) (.tmp 11),0, "sets.go:53",#[⟨5,.data⟩,⟨3,.data⟩,⟨6,.chain⟩,⟨0,.phase⟩,⟨1,.phase⟩,⟨2,.phase⟩,⟨3,.phase⟩,⟨4,.phase⟩,⟨5,.phase⟩,⟨6,.phase⟩],none⟩] l -> wpOp Tryz.prog #[⟨some 8,.load 26 (.tmp 2),26, "sets.go:53",#[],none⟩,⟨some 9,.call ⟨.value (.func 204),#[.tmp 8],#[26]⟩,26, "sets.go:53",#[⟨0,.data⟩],none⟩,⟨some 10,.load 26 (.tmp 3),26, "sets.go:53",#[],none⟩,⟨some 11,.call ⟨.value (.func 204),#[.tmp 10],#[26]⟩,26, "sets.go:53",#[⟨2,.data⟩,⟨1,.chain⟩],none⟩,⟨some 5,.alloc 26,0, "sets.go:53",#[],none⟩,⟨some 6,.alloc 26,0, "sets.go:53",#[],none⟩,⟨none,.store 26 (.tmp 5) (.tmp 9),0, "sets.go:53",#[⟨4,.data⟩,⟨1,.data⟩,⟨3,.chain⟩,⟨0,.phase⟩,⟨1,.phase⟩,⟨2,.textOnly .lateStores⟩,⟨3,.textOnly .lateStoresUnsure⟩,⟨4,.phase⟩,⟨5,.phase⟩],none⟩,⟨none,.store 26 (.tmp 6) (.tmp 11),0, "sets.go:53",#[⟨5,.data⟩,⟨3,.data⟩,⟨6,.chain⟩,⟨0,.phase⟩,⟨1,.phase⟩,⟨2,.phase⟩,⟨3,.phase⟩,⟨4,.phase⟩,⟨5,.phase⟩,⟨6,.phase⟩],none⟩] Q i (fun a' w'=>∃ v1x0 v1x1 v1x2 v1x3 v1x4 v1x5,a'={ tmps:=#[PV a,PV b,ptr w.heap.size,ptr (w.heap.size+1),.int .i64 0,v1x4,v1x5,undef,v1x0,v1x1,v1x2,v1x3,undef,undef,undef,undef,undef,undef,undef,undef,undef,undef,undef,undef,undef],defers:=[] }/\BI 8 6 wk (PhE a b w wk) [] [(1,af (aa a.P)),(3,af (aa b.P))] [(4,6,1),(5,7,3)] (l.setIfInBounds i true) w' [v1x0,v1x1,v1x2,v1x3,v1x4,v1x5,undef,undef]) x W:=by
 rintro l x W ⟨v1x0,v1x1,v1x2,v1x3,v1x4,v1x5,rfl,T⟩ i hi;obtain ⟨cW,cX,aT⟩:=x4 hi;have aY:=vL cX
 have hc:i=0∨i=1∨i=2∨i=3∨i=4∨i=5∨i=6∨i=7:=by have h:i < 8:=cW;omega
 have HT:=hide T;clear T;rcases hc with rfl | rfl | rfl | rfl | rfl | rfl | rfl | rfl
 ·have HL:=hide aY;clear hi cW cX aT aY
  have l1:=zj (dT.below HT.b).at
  refine wpOp_step (o:=⟨some 8,.load 26 (.tmp 2),26, "sets.go:53",#[],none⟩) rfl (fun K hK=>?_);go_simp;exact hK _ _ ⟨PV a,v1x1,v1x2,v1x3,v1x4,v1x5,rfl,HT.plain (km a b w wk) (Below.refl _ _) 0 (by decide) HL.out _ rfl (by simp) (by simp) (by decide)⟩
 ·have d0:=aT _ rfl { on:=0,ground:=Ground.data } (by simp) rfl;have e0:v1x0=PV a:=HT.h 0 (by decide) d0 (fun hm=>absurd hm (by decide));subst e0;have HL:=hide aY;clear hi cW cX aT aY d0;refine wpOp_step (o:=⟨some 9,.call ⟨.value (.func 204),#[.tmp 8],#[26]⟩,26, "sets.go:53",#[⟨0,.data⟩],none⟩) rfl (fun K hK=>?_);go_simp;go_wp2_with fail;refine (bt a _ (HA.below HT.b)).mono ?_;rintro e w' ⟨pp,rfl,pS,pN,pb,pq⟩;exact hK _ _ ⟨_,PV pp,v1x2,v1x3,v1x4,v1x5,rfl,HT.callF (km a b w wk) pb 1 (af (aa a.P)) (by decide) HL.out (by simp) (by simp) pp pS (fun g h1 h2=>pN.elim (fun e=>by rw [e];exact dI.old HA.out h1) (fun h=>dI.new h h2)) (pq) (fun _ _=>trivial) (by simp) (by decide)⟩
 ·have HL:=hide aY;clear hi cW cX aT aY
  have l1:=zj (eN.below HT.b).at
  refine wpOp_step (o:=⟨some 10,.load 26 (.tmp 3),26, "sets.go:53",#[],none⟩) rfl (fun K hK=>?_);go_simp;exact hK _ _ ⟨v1x0,v1x1,PV b,v1x3,v1x4,v1x5,rfl,HT.plain (km a b w wk) (Below.refl _ _) 2 (by decide) HL.out _ rfl (by simp) (by simp) (by decide)⟩
 ·have d2:=aT _ rfl { on:=2,ground:=Ground.data } (by simp) rfl;have e2:v1x2=PV b:=HT.h 2 (by decide) d2 (fun hm=>absurd hm (by decide));subst e2;have HL:=hide aY;clear hi cW cX aT aY d2;refine wpOp_step (o:=⟨some 11,.call ⟨.value (.func 204),#[.tmp 10],#[26]⟩,26, "sets.go:53",#[⟨2,.data⟩,⟨1,.chain⟩],none⟩) rfl (fun K hK=>?_);go_simp;go_wp2_with fail;refine (bt b _ (HB.below HT.b)).mono ?_;rintro e w' ⟨pp,rfl,pS,pN,pb,pq⟩;exact hK _ _ ⟨v1x0,v1x1,_,PV pp,v1x4,v1x5,rfl,HT.callF (km a b w wk) pb 3 (af (aa b.P)) (by decide) HL.out (by simp) (by simp) pp pS (fun g h1 h2=>pN.elim (fun e=>by rw [e];exact dI.old HB.out h1) (fun h=>dI.new h h2)) (pq) (fun _ _=>trivial) (by simp) (by decide)⟩
 ·have HL:=hide aY;clear hi cW cX aT aY;refine wpOp_step (o:=⟨some 5,.alloc 26,0, "sets.go:53",#[],none⟩) rfl (fun K hK=>?_);go_simp;exact hK _ _ ⟨v1x0,v1x1,v1x2,v1x3,ptr W.heap.size,v1x5,rfl,HT.make (km a b w wk) 4 6 1 (by decide) HL.out (by simp) (by simp) (by simp) (by simp) (fun _ _=>trivial) (by decide)⟩
 ·have HL:=hide aY;clear hi cW cX aT aY;refine wpOp_step (o:=⟨some 6,.alloc 26,0, "sets.go:53",#[],none⟩) rfl (fun K hK=>?_);go_simp;exact hK _ _ ⟨v1x0,v1x1,v1x2,v1x3,v1x4,ptr W.heap.size,rfl,HT.make (km a b w wk) 5 7 3 (by decide) HL.out (by simp) (by simp) (by simp) (by simp) (fun _ _=>trivial) (by decide)⟩
 ·have da:=aT _ rfl { on:=4,ground:=Ground.data } (by simp) rfl;have dc:=aT _ rfl { on:=1,ground:=Ground.data } (by simp) rfl;obtain ⟨pc,ec,-,-,-⟩:=HT.r (1,af (aa a.P)) (by simp) dc;obtain ⟨g,eg,PB,T2⟩:=HT.fill 4 6 1 pc (by decide) aY (by simp) (by simp) (by simp) da dc (Or.inl rfl) ec (by simp) (by simp) (zf9 a b w wk) (fun _ _=>trivial) undef;have fg:v1x4=ptr g:=eg;have fc:v1x1=PV pc:=ec;subst fg fc;have s1:=qM (p':=pc) PB;have nf:=hide T2;clear T2 PB eg ec da dc HT hi cW cX aT aY;refine wpOp_step (o:=⟨none,.store 26 (.tmp 5) (.tmp 9),0, "sets.go:53",#[⟨4,.data⟩,⟨1,.data⟩,⟨3,.chain⟩,⟨0,.phase⟩,⟨1,.phase⟩,⟨2,.textOnly .lateStores⟩,⟨3,.textOnly .lateStoresUnsure⟩,⟨4,.phase⟩,⟨5,.phase⟩],none⟩) rfl (fun K hK=>?_);go_simp;exact hK _ _ ⟨v1x0,_,v1x2,v1x3,_,v1x5,rfl,nf.out⟩
 ·have da:=aT _ rfl { on:=5,ground:=Ground.data } (by simp) rfl;have dc:=aT _ rfl { on:=3,ground:=Ground.data } (by simp) rfl;have dt:=aT _ rfl { on:=6,ground:=Ground.chain } (by simp) rfl;obtain ⟨pc,ec,-,-,-⟩:=HT.r (3,af (aa b.P)) (by simp) dc;obtain ⟨g,eg,PB,T2⟩:=HT.fill 5 7 3 pc (by decide) aY (by simp) (by simp) (by simp) da dc (Or.inr dt) ec (by simp) (by simp) (zf9 a b w wk) (fun _ _=>trivial) undef;have fg:v1x5=ptr g:=eg;have fc:v1x3=PV pc:=ec;subst fg fc;have s1:=qM (p':=pc) PB;have nf:=hide T2;clear T2 PB eg ec da dc dt HT hi cW cX aT aY;refine wpOp_step (o:=⟨none,.store 26 (.tmp 6) (.tmp 11),0, "sets.go:53",#[⟨5,.data⟩,⟨3,.data⟩,⟨6,.chain⟩,⟨0,.phase⟩,⟨1,.phase⟩,⟨2,.phase⟩,⟨3,.phase⟩,⟨4,.phase⟩,⟨5,.phase⟩,⟨6,.phase⟩],none⟩) rfl (fun K hK=>?_);go_simp;exact hK _ _ ⟨v1x0,v1x1,v1x2,_,v1x4,_,rfl,nf.out⟩
theorem yu (a b:Pv) (w:World) (hA:am w a) (hB:am w b):Calls Tryz.prog 164 #[PV a,PV b] w fun e w'=>cH w w' e (iN a.P b.P):=by
 have b1:=ze w (.cells (PC a) 26);have b2:=ze (w.alloc (.cells (PC a) 26)) (.cells (PC b) 26);have p2:=zm (w.alloc (.cells (PC a) 26)) b;rw [World.size_alloc] at p2;have dT:=hide ((zm w a).below b2);have eN:=hide p2;have i7:=hide (b1.trans (b2.mono b1.size));have HA:=hide (hA.below i7);have HB:=hide (hB.below i7);clear b1 b2 p2 hA hB;obtain ⟨wk,aL⟩:∃ wk,(w.alloc (.cells (PC a) 26)).alloc (.cells (PC b) 26)=wk:=⟨_,rfl⟩;rw [aL] at dT eN i7 HA HB;go_enter Tryz.func164,Tryz.ntmps164;go_wp2_with fail;clear aL;refine qP (by kernel_rfl) (fun l x W=>∃ v1x0 v1x1 v1x2 v1x3 v1x4 v1x5,x={ tmps:=#[PV a,PV b,ptr w.heap.size,ptr (w.heap.size+1),.int .i64 0,v1x4,v1x5,undef,v1x0,v1x1,v1x2,v1x3,undef,undef,undef,undef,undef,undef,undef,undef,undef,undef,undef,undef,undef],defers:=[] }/\BI 8 6 wk (PhE a b w wk) [] [(1,af (aa a.P)),(3,af (aa b.P))] [(4,6,1),(5,7,3)] l W [v1x0,v1x1,v1x2,v1x3,v1x4,v1x5,undef,undef]) ⟨undef,undef,undef,undef,undef,undef,rfl,BI.start _ _ _ _ _ _ _ _ rfl⟩ ?_ ?_ ?_
 ·rintro l x W ⟨v1x0,v1x1,v1x2,v1x3,v1x4,v1x5,rfl,T⟩;exact T.sz
 ·exact stE dT eN HA HB
 ·rintro l x W ⟨v1x0,v1x1,v1x2,v1x3,v1x4,v1x5,rfl,T⟩ fJ;have aW:=fun i (hi:i < 8)=>xS (by kernel_rfl) T.sz fJ i hi;have HT:=hide T;clear T fJ;have e0:v1x0=PV a:=HT.h 0 (by decide) (aW 0 (by decide)) (fun hm=>absurd hm (by decide));subst e0;obtain ⟨qa,e1,Sqa,qqa,-⟩:=HT.r (1,af (aa a.P)) (by simp) (aW 1 (by decide));have f1:v1x1=PV qa:=e1;subst f1;have BO:=hide Sqa;have Ib:Hid (af (aa a.P) qa.P):=qqa;clear e1 Sqa qqa;have e2:v1x2=PV b:=HT.h 2 (by decide) (aW 2 (by decide)) (fun hm=>absurd hm (by decide));subst e2;obtain ⟨qb,e3,Sqb,qqb,-⟩:=HT.r (3,af (aa b.P)) (by simp) (aW 3 (by decide));have f3:v1x3=PV qb:=e3;subst f3;have Bx:=hide Sqb;have Gt:Hid (af (aa b.P) qb.P):=qqb;clear e3 Sqb qqb;obtain ⟨ga,e4,-,-,-,k4⟩:=HT.a (4,6,1) (by simp) (aW 4 (by decide))
  have GA:Hid (av W ga qa):=k4 (aW 6 (by decide)) qa rfl;have f4:v1x4=ptr ga:=e4;subst f4;clear e4 k4;obtain ⟨gb,e5,-,-,-,k5⟩:=HT.a (5,7,3) (by simp) (aW 5 (by decide));have Gk:Hid (av W gb qb):=k5 (aW 7 (by decide)) qb rfl;have f5:v1x5=ptr gb:=e5;subst f5;clear e5 k5;have by1:=HT.b
  rename World=>y1
  clear aW HT l;replace dT:=hide (dT.below by1);replace eN:=hide (eN.below by1);replace HA:=hide (HA.below by1);replace HB:=hide (HB.below by1);have sj:=wTr i7 by1;clear by1;obtain ⟨va,ca⟩:=GA.nums;obtain ⟨vb,cb⟩:=Gk.nums;have HC:Hid (iN a.P b.P (fO qa.P qb.P)):=⟨qa.P,qb.P,Ib.out,Gt.out,rfl⟩;go_wp2_with fail;refine (bY _ _ _ _ _ _ qa.P.vec qb.P.vec _ BO.vec Bx.vec BO.big Bx.big).mono ?_;rintro e z1 ⟨rfl,bz1⟩;have ca':=(bz1.cell (World.block_lt_of_cell? _ _ ca)).trans ca;have cb':=(bz1.cell (World.block_lt_of_cell? _ _ cb)).trans cb;have u0:=wTr sj bz1;have DY:=hide (BO.below bz1).cloud;have DP:=hide (Bx.below bz1).cloud;clear va vb ca cb bz1;by_cases h0:lex az qa.P.vec qb.P.vec=0
  ·have HE:Hid (fO qa.P qb.P=lex dr qa.P.cloud qb.P.cloud):=by show _=_;unfold fO;rw [if_pos h0]
   rw [h0];clear h0;go_wp2_with fail;refine (yS _ _ _ _ _ _ qa.P.cloud qb.P.cloud _ DY.out DP).mono ?_;rintro e z2 ⟨rfl,bz2⟩;have fk:=wTr u0 bz2;rw [<- HE.out];generalize fO qa.P qb.P=z at HC ⊢;clear HE bz2 ca' cb';go_wp2_with fail;go_ret;exact ⟨z,rfl,HC.out,fk.out⟩
  ·have HE:Hid (fO qa.P qb.P=lex az qa.P.vec qb.P.vec):=by show _=_;unfold fO;rw [if_neg h0]
   rw [<- HE.out] at h0 ⊢;generalize fO qa.P qb.P=z at HC h0 ⊢
   have mS:(z != 0)=true:=by simpa using h0
   clear HE h0;go_wp2_with fail;go_ret;exact ⟨z,rfl,HC.out,u0.out⟩
end
end Go.Proofs.YtjffpimfngdggaaGreat
namespace Go.Proofs.YtjffpimfngdggaaGreat.K
open Go.RowKit

theorem hide {p:Prop} (h:p):Hid p:=h
def dig (c:UInt8):Bool:=decide (48 <= (c.toNat:Int)) && decide ((c.toNat:Int) <= 57)
theorem zt {a b:Bool} (h:a=b):Ending.returned (.bool a) = .returned (.bool b):=by rw [h]
theorem zK {k:IntKind} {a b:Int} (h:a=b):Ending.returned (.int k a) = .returned (.int k b):=by rw [h]
theorem jV {a a' b b':Int} (h:a=a') (h2:b=b'):Ending.returned (.tuple #[.int .i64 a,.int .i64 b]) = .returned (.tuple #[.int .i64 a',.int .i64 b']):=by rw [h,h2]
theorem jc (s:ByteArray) (h:s.size=0):s.toList.isEmpty=true:=by
 rw [ByteArray.toList_eq,List.isEmpty_iff,<- List.length_eq_zero_iff];simpa using h
theorem jP (s:ByteArray) (h:¬ s.size=0):s.toList.isEmpty=false:=by
 rw [ByteArray.toList_eq,List.isEmpty_eq_false_iff,<- List.length_pos_iff];have:s.data.size=s.size:=rfl;simp;omega
end Go.Proofs.YtjffpimfngdggaaGreat.K
