/- YEh YEi YEj YFa YFb -/
import Derived.Test.YtjffpimfngdggaaGreatFe43
import Derived.Test.YtjffpimfngdggaaGreatFe17
import Derived.Deep.MidRow
import Derived.Test.YtjffpimfngdggaaGreatFe09
import Derived.Test.YtjffpimfngdggaaGreatFe37
import Derived.Test.YtjffpimfngdggaaGreatFe36
import Derived.Test.YtjffpimfngdggaaGreatFe31
import Derived.Test.YtjffpimfngdggaaGreatFe38
namespace Go.Proofs.YtjffpimfngdggaaGreat
section
open Go.RowKit
attribute [local go_sem ↓] zq zp zB zz zL zK xw
attribute [local go_sem] zi zj zE zk zm zv qR vz vA vy
def XpE (s h:Fc):Prop:=XpD s h/\plR h.rs=plR s.rs/\∀ r∈h.rs,cj r
end
section
open Go.RowKit
variable {w w' : World} {g : Nat}
structure SpR where
 a:Int
 z:Int
 b:Int
def sp0:SpR:=⟨0,0,0⟩
def SpC (m:SpR):Array Value:=#[.int .i64 m.a,.int .i64 m.z,.int .i64 m.b]
abbrev SpV (m:SpR):Value:=.agg (SpC m)
theorem vt (m:SpR):(SpC m).size=3:=rfl
theorem ziC (m:SpR):∀ v∈(SpC m).toList,v.oneCell'=true:=by
 intro v hv;simp [SpC] at hv;rcases hv with rfl | rfl | rfl <;> rfl
theorem jV (m:SpR):(SpV m).cells=SpC m:=by simp [Value.cells]
structure Nu (w:World) (a:Addr) (m:SpR):Prop where
 c0:w.cell? a=some (.int .i64 m.a)
 c1:w.cell? (a.add 1)=some (.int .i64 m.z)
 c2:w.cell? (a.add 2)=some (.int .i64 m.b)
def cI (w:World) (g:Nat) (m:SpR):Prop:=w.heap[g]? = some (.cells (SpC m) 60 (0,0))
theorem cI.lt {m:SpR} (h:cI w g m):g < w.heap.size:=(Array.getElem?_eq_some_iff.1 h).1
theorem cI.below {m:SpR} (h:cI w g m) (hb:Below w.heap.size w w'):cI w' g m:=(hb.block g h.lt).trans h
theorem cI.c0 {m:SpR} (h:cI w g m):w.cell? ⟨g,0,none⟩=some (.int .i64 m.a):=by unfold cI at h;simp [World.cell?,h,SpC]
theorem cI.c1 {m:SpR} (h:cI w g m):w.cell? ⟨g,1,none⟩=some (.int .i64 m.z):=by unfold cI at h;simp [World.cell?,h,SpC]
theorem cI.c2 {m:SpR} (h:cI w g m):w.cell? ⟨g,2,none⟩=some (.int .i64 m.b):=by unfold cI at h;simp [World.cell?,h,SpC]
theorem yz (w:World) (m:SpR):cI (w.alloc (.cells (SpC m) 60)) w.heap.size m:=by unfold cI;rw [heap_alloc_new]
def Jb (v:Value):Sem Value:=Instr.loadAt 60 v
theorem zaf (v:Value):Instr.loadAt 60 v=Jb v:=rfl
def rR (p v:Value):Sem Unit:=Instr.storeAt 60 p v
theorem bu (p v:Value):Instr.storeAt 60 p v=rR p v:=rfl
theorem ob:(Tryz.prog.info? 60).map (·.size)=some 3:=by kernel_rfl
theorem cI.range {m:SpR} (h:cI w g m):w.rangeAt g 0 (SpC m).toList:=by
 intro j v hv;rw [Nat.zero_add];unfold cI at h;simp only [Array.getElem?_toList] at hv;simp [World.cell?,h,hv]
theorem zfW {m:SpR} (A:cI w g m):(loadVar 60 ⟨g,0,none⟩).run Tryz.prog w = .ok (SpV m) w:=by
 have:=run_loadVar_mid (P:=Tryz.prog) w g 0 60 (SpC m).toList _ A.range Tryz.underlying60 rfl (by rw [ob];rfl);simpa using this
theorem bH {m m':SpR} (A:cI w g m):(rR (.pointer (some ⟨g,0,none⟩)) (.agg (SpC m'))).run Tryz.prog w = .ok () (w.setRow g (SpC m')):=by
 unfold rR;have h:=run_storeCells_from (P:=Tryz.prog) g 60 (SpC m').toList 0 (SpC m) w A (by simp [SpC]) (ziC m')
 cases hq:Tryz.prog.info? 60 with
 | none=>have:=ob;simp [hq] at this
 | some x =>
  have hs:x.size=3:=by have:=ob;simpa [hq] using this
  simp only [Instr.storeAt,Instr.sureAddr,Sem.run_bind,Sem.run_pure,Result.andThen,storeVar,sizeOf,typeInfo,jV,vt];simp at h;simp [h,hq,hs]
theorem cI.setRow {m m':SpR} (A:cI w g m):cI (w.setRow g (SpC m')) g m':=setRow_heap w g _ _ _ _ A
theorem Bu (w:World) (m:SpR) (g:Nat) (hg:w.heap.size=g):∃ w':World,(rR (.pointer (some ⟨g,0,none⟩)) (.agg (SpC m))).run Tryz.prog (w.alloc (.cells (SpC sp0) 60)) = .ok () w'/\cI w' g m/\Below w.heap.size w w'/\w'.heap.size=w.heap.size+1:=by
 subst hg;refine ⟨_,bH (yz w _),(yz w _).setRow,zh (ze w _) (Nat.le_refl _),by simp [World.setRow]⟩
end
section
open Go.RowKit
attribute [local go_sem ↓] zq zp zB zz zL zK xw
attribute [local go_sem] zi zj zE zk zm zv qR vz vA vy
def PrD (f h:Fc) (er:Int):Prop:=(¬ av f/\er=1)∨(av f/\er=0/\∃ s,StD f s/\aK s/\s.es.length=s.an/\s.rs.length=s.rn/\XpE s h)
theorem rJ {w:World} {g:Nat} {fn:Func} {p q:Tmp} {m:SpR} {v:Value} (h:fn.results=#[.cell p 60,.tmp q]) {tmps:Array Value} (hp:tmps.getD p undef = .pointer (some ⟨g,0,none⟩)) (hq:tmps.getD q undef=v) (A:cI w g m) :
  (results fn tmps).run Tryz.prog w = .ok (.tuple #[SpV m,v]) w:=by
 have hl:=zfW A;simp only [results,h];rw [Array.getD_eq_getD_getElem?] at hp hq;simp [hp,hq,asAddr,hl]
def nX (a:Array (Nat × Value)):Sem Value:=Instr.build 60 a
theorem zbw (a:Array (Nat × Value)):Instr.build 60 a=nX a:=rfl
theorem yO (a b c:Int) (w:World):(nX #[(0,.int .i64 a),(1,.int .i64 b),(2,.int .i64 c)]).run Tryz.prog w = .ok (.agg #[.int .i64 a,.int .i64 b,.int .i64 c]) w:=by kernel_rfl
theorem Ex:IntKind.i64.wrap 0=0:=by decide
theorem vW:(#[.int .i64 0,.int .i64 0,.int .i64 0]:Array Value)=SpC sp0:=rfl
theorem BH (w:World) (f:Fc):∃ wk,(w.alloc (.cells (FaC (mkF f)) 29)).alloc (.cells (SpC sp0) 60)=wk/\Hid (aF wk w.heap.size (mkF f))/\Hid (cI wk (w.heap.size+1) sp0)/\Hid (Below w.heap.size w wk):=by
 have b1:=ze w (.cells (FaC (mkF f)) 29);have b2:=ze (w.alloc (.cells (FaC (mkF f)) 29)) (.cells (SpC sp0) 60);have X2:=yz (w.alloc (.cells (FaC (mkF f)) 29)) sp0;rw [World.size_alloc] at X2;exact ⟨_,rfl,(qi w (mkF f)).below b2,X2,b1.trans (b2.mono b1.size)⟩
attribute [local go_sem ↓] zbw zaf bu
attribute [local go_sem] yO Ex jV vt vW
end
section
open Go.RowKit
section
attribute [local go_sem ↓] zq zp zV zU K.zx K.zw
attribute [local go_sem] zi zj
end
section
attribute [local go_sem ↓] zq zp zB zz zL zK qX x4
attribute [local go_sem] zi zj zk zm zv qN xH qD zE
end
section
attribute [local go_sem ↓] zq zp zB zz zV zU K.zx K.zw
attribute [local go_sem] zi zj zk zm zv K.zt K.zF
end
section
attribute [local go_sem ↓] zq zp zB zz zV zU K.zx K.zw
attribute [local go_sem] zi zj zk zm zv zC zN zS ql K.zI K.zt K.zF K.xu
end
def StB (N:Nat) (w w':World) (x:Ending) (f:Fc):Prop:=∃ s:Fc,x = .returned (FaV (mkF s))/\SwB N w' s/\Below w.heap.size w w'/\StD f s
attribute [local go_sem ↓] zq zp zB zz zL zK qX
attribute [local go_sem] zi zj zk zm zv xH qD zE
end
section
open Go.RowKit
def XpI (s h:Fc):Prop:=h.es=s.es/\aj h.p.P/\(∀ e,inB h.p.P e=true↔inB s.p.P e=true/\¬ ∃ y∈s.es,aa y=aa e)/\plR h.rs=plR s.rs
def PrF (f h:Fc) (er:Int):Prop:=(¬ av f/\er=1/\h=fz0)∨(av f/\er=0/\∃ s,StD f s/\XpI s h)
def ExF (s h:Fc) (er:Int):Prop:=(¬ aK s/\er=1/\h=fz0)∨(aK s/\er=0/\XpI s h)
def SmD (f t:Fc):Prop:=av f/\∃ s,StD f s/\EqS s t
attribute [local go_sem ↓] zq zp zB zz zL zK
attribute [local go_sem] zi zj zk zm zv
end
end Go.Proofs.YtjffpimfngdggaaGreat
