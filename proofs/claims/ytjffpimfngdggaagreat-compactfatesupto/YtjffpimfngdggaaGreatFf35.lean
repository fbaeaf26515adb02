import Derived.Test.YtjffpimfngdggaaGreatFf34
import Derived.Deep.MidRow
namespace Go.Proofs.YtjffpimfngdggaaGreat
section
open Go.RowKit
attribute [local go_sem ↓] zq zp zP zO zY zX K.zy K.zx qf qe
attribute [local go_sem] zi zk zl zr zv zz zM zR qp K.zJ K.zu K.zH K.xq zL zS qg
end
section
open Go.RowKit
attribute [local go_sem ↓] zq zp zE zD zP zO xz
attribute [local go_sem] zi zk zI zl zr zv qW vG vH vF
def XpE (s h:Fc):Prop:=XpD s h/\plR h.rs=plR s.rs/\∀ r∈h.rs,ch r
end
section
open Go.RowKit
variable {w w' : World} {g : Nat}
structure SpR where
 a:Int
 z:Int
 b:Int
def sp0:SpR:=⟨0,0,0⟩
def SpC (m:SpR):Array Value:=#[.int .i64 m.a,.int .i64 m.z,.int .i64 m.b]
abbrev SpV (m:SpR):Value:=.agg (SpC m)
theorem wK (m:SpR):(SpC m).size=3:=rfl
theorem zi3 (m:SpR):∀ v∈(SpC m).toList,v.oneCell'=true:=by
 intro v hv;simp [SpC] at hv;rcases hv with rfl | rfl | rfl <;> rfl
theorem vv (m:SpR):(SpV m).cells=SpC m:=by simp [Value.cells]
structure Og (w:World) (a:Addr) (m:SpR):Prop where
 c0:w.cell? a=some (.int .i64 m.a)
 c1:w.cell? (a.add 1)=some (.int .i64 m.z)
 c2:w.cell? (a.add 2)=some (.int .i64 m.b)
def cN (w:World) (g:Nat) (m:SpR):Prop:=w.heap[g]? = some (.cells (SpC m) 60 (0,0))
theorem cN.lt {m:SpR} (h:cN w g m):g < w.heap.size:=(Array.getElem?_eq_some_iff.1 h).1
theorem cN.below {m:SpR} (h:cN w g m) (hb:Below w.heap.size w w'):cN w' g m:=(hb.block g h.lt).trans h
theorem cN.c1 {m:SpR} (h:cN w g m):w.cell? ⟨g,1,none⟩=some (.int .i64 m.z):=by unfold cN at h;simp [World.cell?,h,SpC]
theorem cN.c2 {m:SpR} (h:cN w g m):w.cell? ⟨g,2,none⟩=some (.int .i64 m.b):=by unfold cN at h;simp [World.cell?,h,SpC]
theorem yP (w:World) (m:SpR):cN (w.alloc (.cells (SpC m) 60)) w.heap.size m:=by unfold cN;rw [heap_alloc_new]
def CF (v:Value):Sem Value:=Instr.loadAt 60 v
theorem zco (v:Value):Instr.loadAt 60 v=CF v:=rfl
def rl (p v:Value):Sem Unit:=Instr.storeAt 60 p v
theorem zb3 (p v:Value):Instr.storeAt 60 p v=rl p v:=rfl
theorem oY:(Tryz.prog.info? 60).map (·.size)=some 3:=by kernel_rfl
theorem cN.range {m:SpR} (h:cN w g m):w.rangeAt g 0 (SpC m).toList:=by
 intro j v hv;rw [Nat.zero_add];unfold cN at h;simp only [Array.getElem?_toList] at hv;simp [World.cell?,h,hv]
theorem zcV {m:SpR} (A:cN w g m):(loadVar 60 ⟨g,0,none⟩).run Tryz.prog w = .ok (SpV m) w:=by
 have:=run_loadVar_mid (P:=Tryz.prog) w g 0 60 (SpC m).toList _ A.range Tryz.underlying60 rfl (by rw [oY];rfl);simpa using this
theorem zcZ {m:SpR} (A:cN w g m):(CF (.pointer (some ⟨g,0,none⟩))).run Tryz.prog w = .ok (.agg (SpC m)) w:=by
 unfold CF;simp only [Instr.loadAt,Instr.sureAddr,Sem.run_bind,Sem.run_pure,Result.andThen];exact zcV A
theorem kI {m m':SpR} (A:cN w g m):(rl (.pointer (some ⟨g,0,none⟩)) (.agg (SpC m'))).run Tryz.prog w = .ok () (w.setRow g (SpC m')):=by
 unfold rl;have h:=run_storeCells_from (P:=Tryz.prog) g 60 (SpC m').toList 0 (SpC m) w A (by simp [SpC]) (zi3 m')
 cases hq:Tryz.prog.info? 60 with
 | none=>have:=oY;simp [hq] at this
 | some x =>
  have hs:x.size=3:=by have:=oY;simpa [hq] using this
  simp only [Instr.storeAt,Instr.sureAddr,Sem.run_bind,Sem.run_pure,Result.andThen,storeVar,sizeOf,typeInfo,vv,wK];simp at h;simp [h,hq,hs]
theorem cN.setRow {m m':SpR} (A:cN w g m):cN (w.setRow g (SpC m')) g m':=setRow_heap w g _ _ _ _ A
theorem sS (w:World) (m:SpR) (g:Nat) (hg:w.heap.size=g):∃ w':World,(rl (.pointer (some ⟨g,0,none⟩)) (.agg (SpC m))).run Tryz.prog (w.alloc (.cells (SpC sp0) 60)) = .ok () w'/\cN w' g m/\Below w.heap.size w w'/\w'.heap.size=w.heap.size+1:=by
 subst hg;refine ⟨_,kI (yP w _),(yP w _).setRow,zh (ze w _) (Nat.le_refl _),by simp [World.setRow]⟩
end
section
open Go.RowKit
attribute [local go_sem ↓] zq zp zE zD zP zO xz
attribute [local go_sem] zi zk zI zl zr zv qW vG vH vF
def PrD (f h:Fc) (er:Int):Prop:=(¬ ar f/\er=1)∨(ar f/\er=0/\∃ s,StD f s/\aQ s/\s.es.length=s.an/\s.rs.length=s.rn/\XpE s h)
theorem mC {w:World} {g:Nat} {fn:Func} {p q:Tmp} {m:SpR} {v:Value} (h:fn.results=#[.cell p 60,.tmp q]) {tmps:Array Value} (hp:tmps.getD p undef = .pointer (some ⟨g,0,none⟩)) (hq:tmps.getD q undef=v) (A:cN w g m) :
  (results fn tmps).run Tryz.prog w = .ok (.tuple #[SpV m,v]) w:=by
 have hl:=zcV A;simp only [results,h];rw [Array.getD_eq_getD_getElem?] at hp hq;simp [hp,hq,asAddr,hl]
def oR (a:Array (Nat × Value)):Sem Value:=Instr.build 60 a
theorem zbT (a:Array (Nat × Value)):Instr.build 60 a=oR a:=rfl
theorem bh (a b c:Int) (w:World):(oR #[(0,.int .i64 a),(1,.int .i64 b),(2,.int .i64 c)]).run Tryz.prog w = .ok (.agg #[.int .i64 a,.int .i64 b,.int .i64 c]) w:=by kernel_rfl
theorem EE:IntKind.i64.wrap 0=0:=by decide
theorem bS:(#[.int .i64 0,.int .i64 0,.int .i64 0]:Array Value)=SpC sp0:=rfl
theorem td (w:World) (f:Fc):∃ wk,(w.alloc (.cells (FaC (mkF f)) 29)).alloc (.cells (SpC sp0) 60)=wk/\Hid (aF wk w.heap.size (mkF f))/\Hid (cN wk (w.heap.size+1) sp0)/\Hid (Below w.heap.size w wk):=by
 have b1:=ze w (.cells (FaC (mkF f)) 29);have b2:=ze (w.alloc (.cells (FaC (mkF f)) 29)) (.cells (SpC sp0) 60);have X2:=yP (w.alloc (.cells (FaC (mkF f)) 29)) sp0;rw [World.size_alloc] at X2;exact ⟨_,rfl,(zU w (mkF f)).below b2,X2,tmq b1 b2⟩
attribute [local go_sem ↓] zbT zco zb3
attribute [local go_sem] bh EE vv wK bS
end
end Go.Proofs.YtjffpimfngdggaaGreat
