/- YGa GBs GRe PRg PTw PBk PBl PCm PCq -/
import Derived.Test.YtcilfelgpmfehaaGreatBj10
import Derived.Deep.MidRow
import Derived.RegionTactic
import Derived.Test.YtcilfelgpmfehaaGreatBj05
import Derived.Test.YtcilfelgpmfehaaGreatBj07
set_option maxRecDepth 100000
set_option maxHeartbeats 1600000
namespace Go.Proofs.YtcilfelgpmfehaaGreat.K
open Go.RowKit
abbrev mS:ByteArray:=⟨#[77,85,71,45,49]⟩
theorem zfU (w:World):Calls Tryz.prog 27 #[] w fun e w'=>e = .returned (.agg #[.int .i64 1,.int .i64 2,.string mS,.int .i64 5])/\Below w.heap.size w w':=by
 have HX:=hide (qx w 66 ⟨1,2,mS,5⟩);have HB:=hide (ze w (.cells (EC ⟨1,2,mS,5⟩) 66));go_enter Tryz.func27,Tryz.ntmps27;go_wp2_with fail;exact bodyPost_ret (D6 Tryz.results27 rfl HX.out) rfl ⟨rfl,HB.out⟩
attribute [local go_sem ↓] zu zt qO
attribute [local go_sem] zC zs zB
def iM (e:En):Bool:=isR e.rep && (decide (1 <= e.num) && decide (e.num <= 1000000000))
theorem zaf (e:En) (w:World):Calls Tryz.prog 54 #[.agg (DC e)] w fun x w'=>x = .returned (.bool (iM e))/\Below w.heap.size w w':=by
 obtain ⟨r,m,s,q⟩:=e;have HB:=hide (ze w (.cells #[.int .i64 r,.int .i64 m] 64))
 show Calls Tryz.prog 54 #[.agg #[.int .i64 r,.int .i64 m]] w fun x w'=>x = .returned (.bool (iM ⟨r,m,s,q⟩))/\Below w.heap.size w w'
 obtain ⟨v,Hv⟩:∃ v,Hid (iM ⟨r,m,s,q⟩=v):=⟨_,rfl⟩;rw [Hv.out];by_cases h1:0 <= r
 ·have g1:decide (0 <= r)=true:=decide_eq_true h1;by_cases h2:r < 16
  ·have g2:decide (r < 16)=true:=decide_eq_true h2;by_cases h3:1 <= m
   ·have g3:decide (1 <= m)=true:=decide_eq_true h3
    have HF:Hid (decide (m <= 1000000000)=v):=by show _=_;rw [<- Hv.out];simp [iM,isR,h1,h2,h3]
    clear h1 h2 h3;go_enter Tryz.func54,Tryz.ntmps54;go_wp2_with fail;go_ret;exact ⟨zm HF.out,HB.out⟩
   ·have g3:decide (1 <= m)=false:=decide_eq_false h3
    have HF:Hid (false=v):=by show _=_;rw [<- Hv.out];simp [iM,isR,h1,h2,h3]
    clear h1 h2 h3;go_enter Tryz.func54,Tryz.ntmps54;go_wp2_with fail;go_ret;exact ⟨zm HF.out,HB.out⟩
  ·have g2:decide (r < 16)=false:=decide_eq_false h2
   have HF:Hid (false=v):=by show _=_;rw [<- Hv.out];simp [iM,isR,h1,h2]
   clear h1 h2;go_enter Tryz.func54,Tryz.ntmps54;go_wp2_with fail;go_ret;exact ⟨zm HF.out,HB.out⟩
 ·have g1:decide (0 <= r)=false:=decide_eq_false h1
  have HF:Hid (false=v):=by show _=_;rw [<- Hv.out];simp [iM,isR,h1]
  clear h1;go_enter Tryz.func54,Tryz.ntmps54;go_wp2_with fail;go_ret;exact ⟨zm HF.out,HB.out⟩
theorem kK (x y:En) (w:World):Calls Tryz.prog 31 #[.agg (DC x),.agg (DC y)] w fun e w'=>e = .returned (.bool (ahead x y))/\Below w.heap.size w w':=by
 obtain ⟨r,m,s,q⟩:=x;obtain ⟨r',m',s',q'⟩:=y;have HB:=hide (ze w (.cells #[.int .i64 r,.int .i64 m] 64));have cd:=hide (HB.out.trans ((ze (w.alloc (.cells #[.int .i64 r,.int .i64 m] 64)) (.cells #[.int .i64 r',.int .i64 m'] 64)).mono HB.out.size))
 show Calls Tryz.prog 31 #[.agg #[.int .i64 r,.int .i64 m],.agg #[.int .i64 r',.int .i64 m']] w fun x w'=>x = .returned (.bool (ahead ⟨r,m,s,q⟩ ⟨r',m',s',q'⟩))/\Below w.heap.size w w'
 obtain ⟨v,Hv⟩:∃ v,Hid (ahead ⟨r,m,s,q⟩ ⟨r',m',s',q'⟩=v):=⟨_,rfl⟩;rw [Hv.out];by_cases h1:r < r'
 ·have g1:decide (r < r')=true:=decide_eq_true h1
  have HF:Hid (true=v):=by show _=_;rw [<- Hv.out];simp [ahead,h1]
  clear h1;go_enter Tryz.func31,Tryz.ntmps31;go_wp2_with fail;go_ret;exact ⟨zm HF.out,cd.out⟩
 ·have g1:decide (r < r')=false:=decide_eq_false h1;by_cases h2:r=r'
  ·have g2:(r == r')=true:=by simpa using h2
   have HF:Hid (decide (m < m')=v):=by show _=_;rw [<- Hv.out];simp [ahead,h2]
   clear h1 h2;go_enter Tryz.func31,Tryz.ntmps31;go_wp2_with fail;go_ret;exact ⟨zm HF.out,cd.out⟩
  ·have g2:(r == r')=false:=by simpa using h2
   have HF:Hid (false=v):=by show _=_;rw [<- Hv.out];simp [ahead,h1,h2]
   clear h1 h2;go_enter Tryz.func31,Tryz.ntmps31;go_wp2_with fail;go_ret;exact ⟨zm HF.out,cd.out⟩
attribute [local go_sem ↓] ql
theorem jo (ao bo:Option Addr) (n cap m cap':Nat) (L R:List En) (w:World) (hS:aF w ao n cap L) (hR:aF w bo m cap' R) (hE:L=R) :
  Calls Tryz.prog 17 #[.slice ao n cap,.slice bo m cap'] w fun e w'=>e = .returned (.bool true)/\Below w.heap.size w w':=by
 have HS:=hide hS;have HR:=hide hR;have hn:=hS.2.2.2.2
 have lC:n=m:=by rw [<- hS.1,<- hR.1,hE]
 subst hE;subst lC;clear hS hR;go_enter Tryz.func17,Tryz.ntmps17;go_wp2_with fail;go_loopw [13] (fun i wr=>∃ k:Nat,k <= n/\i = .int .i64 k/\Hid (Below w.heap.size w wr)) (fun i _=>n - (intOf i).toNat)
 case atStart=>exact ⟨0,Nat.zero_le _,rfl,Below.refl _ _⟩
 case round =>
  obtain ⟨k,hk,rfl,HB⟩:=hrel;by_cases aq:k < n
  ·obtain ⟨ad,rfl,A0⟩:=(HS.out.below HB.out).at k aq;obtain ⟨bd,rfl,A1⟩:=(HR.out.below HB.out).at k aq;obtain ⟨e,He⟩:∃ e,Hid (L.getD k en0=e):=⟨_,rfl⟩;rw [He.out] at A0 A1;have l0:∀ d os,(eR (.pointer (some (ad.add (k * 4))))).run Tryz.prog (Sort.grow (redrawn wr d) os) = .ok (EV e) (Sort.grow (redrawn wr d) os):=fun d os=>zX (A0.on (below_regrown wr d os));have l1:∀ d os,(eR (.pointer (some (bd.add (k * 4))))).run Tryz.prog (Sort.grow (redrawn wr d) os) = .ok (EV e) (Sort.grow (redrawn wr d) os):=fun d os=>zX (A1.on (below_regrown wr d os));have hq:=yX e;clear A0 A1;go_wp2_with fail;refine wp_region_quiet_below (by kernel_rfl) (by kernel_rfl) ?_
   repeat (with_reducible (refine wpQuiet_step ?_);intro K hK;go_simp;(try rw [if_neg (by unfold undef;simp)]);first | (with_reducible (refine hK _ ?_);clear hK K) | (apply Exists.intro;refine ⟨fun _=>?_,hK _ ?_⟩;(fail);clear hK K))
   with_reducible (refine wpQuiet_nil ?_)
   intro _ hw';obtain ⟨⟨dq,osq⟩,hw''⟩:=hw';subst hw'';have dA:Hid (Below w.heap.size w (Sort.grow (redrawn wr dq) osq)):=HB.out.trans ((below_regrown wr dq osq).mono HB.out.size);go_wp2_with fail;go_roundw
   case rel=>exact ⟨k+1,by omega,by go_num,dA⟩
   case measure=>simp [intOf];omega
  ·go_wp2_with fail;go_ret;exact ⟨rfl,HB.out⟩
end Go.Proofs.YtcilfelgpmfehaaGreat.K
namespace Go.Proofs.YtcilfelgpmfehaaGreat
section
theorem kX (p:Addr) (m:Nat):(p.add m).block=p.block:=zp p m
theorem zcs (p:Addr):p.add 0=p:=add_zero p
end
section
open Go.RowKit
variable {w w' : World} {g : Nat}
structure dS where
 sku:ByteArray
 veco:Option Addr
 vecn:Nat
 vecc:Nat
 cloudo:Option Addr
 cloudn:Nat
 cloudc:Nat
def re0:dS:=⟨⟨#[]⟩,none,0,0,none,0,0⟩
def ReC (m:dS):Array Value:=#[.string m.sku,.slice m.veco m.vecn m.vecc,.slice m.cloudo m.cloudn m.cloudc]
abbrev ReV (m:dS):Value:=.agg (ReC m)
theorem zH (m:dS):(ReC m).size=3:=rfl
theorem zgo (m:dS):∀ v∈(ReC m).toList,v.oneCell'=true:=by
 intro v hv;simp [ReC] at hv;rcases hv with rfl | rfl | rfl <;> rfl
theorem zy (m:dS):(ReV m).cells=ReC m:=by simp [Value.cells]
structure gQ (w:World) (a:Addr) (m:dS):Prop where
 c0:w.cell? a=some (.string m.sku)
 c1:w.cell? (a.add 1)=some (.slice m.veco m.vecn m.vecc)
 c2:w.cell? (a.add 2)=some (.slice m.cloudo m.cloudn m.cloudc)
theorem gQ.on {a:Addr} {m:dS} (S:gQ w a m) (hb:Below w.heap.size w w'):gQ w' a m:=by
 have h0:=World.block_lt_of_cell? _ _ S.c0;exact ⟨by rw [hb.cell h0];exact S.c0,by rw [hb.cell (by rw [kX];exact h0)];exact S.c1,by rw [hb.cell (by rw [kX];exact h0)];exact S.c2⟩
def aY (w:World) (g:Nat) (m:dS):Prop:=w.heap[g]? = some (.cells (ReC m) 84 (0,0))
theorem aY.lt {m:dS} (h:aY w g m):g < w.heap.size:=(Array.getElem?_eq_some_iff.1 h).1
theorem aY.below {m:dS} (h:aY w g m) (hb:Below w.heap.size w w'):aY w' g m:=(hb.block g h.lt).trans h
theorem aY.c0 {m:dS} (h:aY w g m):w.cell? ⟨g,0,none⟩=some (.string m.sku):=by unfold aY at h;simp [World.cell?,h,ReC]
theorem aY.c1 {m:dS} (h:aY w g m):w.cell? ⟨g,1,none⟩=some (.slice m.veco m.vecn m.vecc):=by unfold aY at h;simp [World.cell?,h,ReC]
theorem aY.c2 {m:dS} (h:aY w g m):w.cell? ⟨g,2,none⟩=some (.slice m.cloudo m.cloudn m.cloudc):=by unfold aY at h;simp [World.cell?,h,ReC]
theorem xf (w:World) (m:dS):aY (w.alloc (.cells (ReC m) 84)) w.heap.size m:=by unfold aY;rw [heap_alloc_new]
def fY (v:Value):Sem Value:=Instr.loadAt 84 v
theorem zR (v:Value):Instr.loadAt 84 v=fY v:=rfl
def sM (p v:Value):Sem Unit:=Instr.storeAt 84 p v
theorem zQ (p v:Value):Instr.storeAt 84 p v=sM p v:=rfl
theorem ix:(Tryz.prog.info? 84).map (·.size)=some 3:=by kernel_rfl
theorem aY.range {m:dS} (h:aY w g m):w.rangeAt g 0 (ReC m).toList:=by
 intro j v hv;rw [Nat.zero_add];unfold aY at h;simp only [Array.getElem?_toList] at hv;simp [World.cell?,h,hv]
theorem zbd {m:dS} (A:aY w g m):(loadVar 84 ⟨g,0,none⟩).run Tryz.prog w = .ok (ReV m) w:=by
 have:=run_loadVar_mid (P:=Tryz.prog) w g 0 84 (ReC m).toList _ A.range Tryz.underlying84 rfl (by rw [ix];rfl);simpa using this
theorem qU {m:dS} (A:aY w g m):(fY (.pointer (some ⟨g,0,none⟩))).run Tryz.prog w = .ok (.agg (ReC m)) w:=by
 unfold fY;simp only [Instr.loadAt,Instr.sureAddr,Sem.run_bind,Sem.run_pure,Result.andThen];exact zbd A
theorem zI {a:Addr} {m:dS} (A:gQ w a m):(fY (.pointer (some a))).run Tryz.prog w = .ok (.agg (ReC m)) w:=by
 have hl:=run_loadCells_list (P:=Tryz.prog) (w:=w) a (ReC m).toList (fun j v hv=>by
  match j,hv with
  | 0,hv=>cases hv;rw [zcs];exact A.c0
  | 1,hv=>cases hv;exact A.c1
  | 2,hv=>cases hv;exact A.c2
  | j+3,hv=>simp [ReC] at hv)
 unfold fY;simp only [Instr.loadAt,Instr.sureAddr,Sem.run_bind,Sem.run_pure,Result.andThen]
 cases hq:Tryz.prog.info? 84 with
 | none=>have:=ix;simp [hq] at this
 | some x =>
  have hs:x.size=3:=by have:=ix;simpa [hq] using this
  have eL:(isAgg 84).run Tryz.prog w = .ok true w:=by
   unfold isAgg;rw [Sem.run_bind,run_underlying Tryz.underlying84 w];rfl
  have e2:(ReC m).toList.length=3:=rfl;rw [e2] at hl;simp [loadVar,Sem.run_bind,eL,sizeOf,typeInfo,hq,hs,hl]
theorem zbb {m m':dS} (A:aY w g m):(sM (.pointer (some ⟨g,0,none⟩)) (.agg (ReC m'))).run Tryz.prog w = .ok () (w.setRow g (ReC m')):=by
 unfold sM;have h:=run_storeCells_from (P:=Tryz.prog) g 84 (ReC m').toList 0 (ReC m) w A (by simp [ReC]) (zgo m')
 cases hq:Tryz.prog.info? 84 with
 | none=>have:=ix;simp [hq] at this
 | some x =>
  have hs:x.size=3:=by have:=ix;simpa [hq] using this
  simp only [Instr.storeAt,Instr.sureAddr,Sem.run_bind,Sem.run_pure,Result.andThen,storeVar,sizeOf,typeInfo,zy,zH];simp at h;simp [h,hq,hs]
theorem aY.setRow {m m':dS} (A:aY w g m):aY (w.setRow g (ReC m')) g m':=setRow_heap w g _ _ _ _ A
theorem dY (w:World) (m:dS) (g:Nat) (hg:w.heap.size=g):∃ w':World,(sM (.pointer (some ⟨g,0,none⟩)) (.agg (ReC m))).run Tryz.prog (w.alloc (.cells (ReC re0) 84)) = .ok () w'/\aY w' g m/\Below w.heap.size w w'/\w'.heap.size=w.heap.size+1:=by
 subst hg;refine ⟨_,zbb (xf w _),(xf w _).setRow,zg (ze w _) (Nat.le_refl _),by simp [World.setRow]⟩
theorem Ak {m:dS} {fn:Func} {p:Tmp} (h:fn.results=#[.cell p 84]) {tmps:Array Value} (hp:tmps.getD p undef = .pointer (some ⟨g,0,none⟩)) (A:aY w g m) :
  (results fn tmps).run Tryz.prog w = .ok (ReV m) w:=by
 have hl:=zbd A;simp only [results,h];rw [Array.getD_eq_getD_getElem?] at hp;simp [hp,asAddr,hl]
structure ct where
 addso:Option Addr
 addsn:Nat
 addsc:Nat
 veco:Option Addr
 vecn:Nat
 vecc:Nat
 cloudo:Option Addr
 cloudn:Nat
 cloudc:Nat
 recso:Option Addr
 recsn:Nat
 recsc:Nat
def fa0:ct:=⟨none,0,0,none,0,0,none,0,0,none,0,0⟩
def FaC (m:ct):Array Value:=#[.slice m.addso m.addsn m.addsc,.slice m.veco m.vecn m.vecc,.slice m.cloudo m.cloudn m.cloudc,.slice m.recso m.recsn m.recsc]
abbrev FaV (m:ct):Value:=.agg (FaC m)
theorem zr (m:ct):(FaC m).size=4:=rfl
theorem zdV (m:ct):∀ v∈(FaC m).toList,v.oneCell'=true:=by
 intro v hv;simp [FaC] at hv;rcases hv with rfl | rfl | rfl | rfl <;> rfl
theorem zj (m:ct):(FaV m).cells=FaC m:=by simp [Value.cells]
structure Nj (w:World) (a:Addr) (m:ct):Prop where
 c0:w.cell? a=some (.slice m.addso m.addsn m.addsc)
 c1:w.cell? (a.add 1)=some (.slice m.veco m.vecn m.vecc)
 c2:w.cell? (a.add 2)=some (.slice m.cloudo m.cloudn m.cloudc)
 c3:w.cell? (a.add 3)=some (.slice m.recso m.recsn m.recsc)
def aD (w:World) (g:Nat) (m:ct):Prop:=w.heap[g]? = some (.cells (FaC m) 29 (0,0))
theorem aD.lt {m:ct} (h:aD w g m):g < w.heap.size:=(Array.getElem?_eq_some_iff.1 h).1
theorem aD.below {m:ct} (h:aD w g m) (hb:Below w.heap.size w w'):aD w' g m:=(hb.block g h.lt).trans h
theorem aD.c0 {m:ct} (h:aD w g m):w.cell? ⟨g,0,none⟩=some (.slice m.addso m.addsn m.addsc):=by unfold aD at h;simp [World.cell?,h,FaC]
theorem aD.c1 {m:ct} (h:aD w g m):w.cell? ⟨g,1,none⟩=some (.slice m.veco m.vecn m.vecc):=by unfold aD at h;simp [World.cell?,h,FaC]
theorem aD.c2 {m:ct} (h:aD w g m):w.cell? ⟨g,2,none⟩=some (.slice m.cloudo m.cloudn m.cloudc):=by unfold aD at h;simp [World.cell?,h,FaC]
theorem aD.c3 {m:ct} (h:aD w g m):w.cell? ⟨g,3,none⟩=some (.slice m.recso m.recsn m.recsc):=by unfold aD at h;simp [World.cell?,h,FaC]
theorem zP (w:World) (m:ct):aD (w.alloc (.cells (FaC m) 29)) w.heap.size m:=by unfold aD;rw [heap_alloc_new]
def mO (v:Value):Sem Value:=Instr.loadAt 29 v
theorem zM (v:Value):Instr.loadAt 29 v=mO v:=rfl
def mJ (p v:Value):Sem Unit:=Instr.storeAt 29 p v
theorem zL (p v:Value):Instr.storeAt 29 p v=mJ p v:=rfl
theorem mF:(Tryz.prog.info? 29).map (·.size)=some 4:=by kernel_rfl
theorem aD.range {m:ct} (h:aD w g m):w.rangeAt g 0 (FaC m).toList:=by
 intro j v hv;rw [Nat.zero_add];unfold aD at h;simp only [Array.getElem?_toList] at hv;simp [World.cell?,h,hv]
theorem yH {m:ct} (A:aD w g m):(loadVar 29 ⟨g,0,none⟩).run Tryz.prog w = .ok (FaV m) w:=by
 have:=run_loadVar_mid (P:=Tryz.prog) w g 0 29 (FaC m).toList _ A.range Tryz.underlying29 rfl (by rw [mF];rfl);simpa using this
theorem qd {m:ct} (A:aD w g m):(mO (.pointer (some ⟨g,0,none⟩))).run Tryz.prog w = .ok (.agg (FaC m)) w:=by
 unfold mO;simp only [Instr.loadAt,Instr.sureAddr,Sem.run_bind,Sem.run_pure,Result.andThen];exact yH A
theorem xp {m m':ct} (A:aD w g m):(mJ (.pointer (some ⟨g,0,none⟩)) (.agg (FaC m'))).run Tryz.prog w = .ok () (w.setRow g (FaC m')):=by
 unfold mJ;have h:=run_storeCells_from (P:=Tryz.prog) g 29 (FaC m').toList 0 (FaC m) w A (by simp [FaC]) (zdV m')
 cases hq:Tryz.prog.info? 29 with
 | none=>have:=mF;simp [hq] at this
 | some x =>
  have hs:x.size=4:=by have:=mF;simpa [hq] using this
  simp only [Instr.storeAt,Instr.sureAddr,Sem.run_bind,Sem.run_pure,Result.andThen,storeVar,sizeOf,typeInfo,zj,zr];simp at h;simp [h,hq,hs]
theorem aD.setRow {m m':ct} (A:aD w g m):aD (w.setRow g (FaC m')) g m':=setRow_heap w g _ _ _ _ A
theorem pt {m:ct} {fn:Func} {p:Tmp} (h:fn.results=#[.cell p 29]) {tmps:Array Value} (hp:tmps.getD p undef = .pointer (some ⟨g,0,none⟩)) (A:aD w g m) :
  (results fn tmps).run Tryz.prog w = .ok (FaV m) w:=by
 have hl:=yH A;simp only [results,h];rw [Array.getD_eq_getD_getElem?] at hp;simp [hp,asAddr,hl]
end
section
open Go.RowKit

def oc (n:Nat) (l:Array Bool):Nat:=(List.range n).countP (fun i => !l.getD i true)
theorem wf {p q:Nat -> Bool} {i:Nat}:∀ {xs:List Nat},(∀ j,q j=true -> p j=true) -> i∈xs -> p i=true -> q i=false -> xs.countP q < xs.countP p
 | [],_,h,_,_=>by cases h
 | x :: xs,hpq,h,hp,hq=>by
  have m9:xs.countP q <= xs.countP p:=List.countP_mono_left (fun j _=>hpq j);rcases List.mem_cons.1 h with rfl | h
  ·rw [List.countP_cons_of_neg (by simp [hq]),List.countP_cons_of_pos (by simp [hp])];omega
  ·have:=wf hpq h hp hq;rw [List.countP_cons,List.countP_cons];have hx:=hpq x
   cases hqx:q x with
   | true=>simp [hx hqx];exact this
   | false=>cases p x <;> simp <;> omega
theorem xH {md:Region.Mode} {ops:Array Oper} {l:Array Bool} {i:Nat} (h:i∈Region.ready md ops l):i < ops.size/\l.getD i true=false/\∀ o,ops[i]? = some o -> ∀ e∈o.after,Region.binds md e=true -> l.getD e.on false=true:=by
 unfold Region.ready at h;rw [List.mem_filter,List.mem_range] at h;obtain ⟨h1,h2⟩:=h;simp only [Bool.and_eq_true,Bool.not_eq_true'] at h2;refine ⟨h1,h2.1,fun o ho e he hb=>?_⟩;have h3:=h2.2;rw [ho] at h3;simp only [Option.map_some,Option.getD_some] at h3;have:=Array.all_eq_true'.1 h3 e he;simpa [hb] using this
theorem bO {md:Region.Mode} {ops:Array Oper} {l:Array Bool} (h:oc ops.size l=0):Region.ready md ops l=[]:=by
 unfold Region.ready;rw [List.filter_eq_nil_iff];intro i hi;have:=List.countP_eq_zero.1 h i hi;simp at this;simp [this]
theorem bu {P:Program} {md:Region.Mode} {ops:Array Oper} {Q:Exit -> Act -> World -> Prop} (I:Array Bool -> Act -> World -> Prop) (hz:∀ l a w,I l a w -> l.size=ops.size)
  (hs:∀ l a w,I l a w -> ∀ i,i∈Region.ready md ops l -> wpOp P ops Q i (fun a' w'=>I (l.setIfInBounds i true) a' w') a w)
  (he:∀ l a w,I l a w -> Region.ready md ops l=[] -> Q .normal a w) :
  ∀ (fuel:Nat) (l:Array Bool) (a:Act) (w:World),I l a w -> oc ops.size l <= fuel -> wpAny P md ops Q fuel l a w
 | 0,l,a,w,h,hf=>⟨bO (by omega),he l a w h (bO (by omega))⟩
 | fuel+1,l,a,w,h,hf=>by
  refine ⟨he l a w h,fun i hi=>wpOp_mono (fun a' w' h'=>?_) (hs l a w h i hi)⟩;refine bu I hz hs he fuel _ a' w' h' ?_;obtain ⟨h1,h2,_⟩:=xH hi;have hl:=hz l a w h
  have:oc ops.size (l.setIfInBounds i true) < oc ops.size l:=by
   unfold oc;refine wf (i:=i) (fun j hj=>?_) (List.mem_range.2 h1) (by simp only [h2];rfl) ?_
   ·by_cases e:i=j
    ·subst e;simp [Array.getD,hl,h1] at hj
    ·simpa [Array.getD_eq_getD_getElem?,Array.getElem?_setIfInBounds,e] using hj
   ·simp [Array.getD,hl,h1]
  omega
theorem qE {P:Program} {ops:Array Oper} {Q:Exit -> Act -> World -> Prop} {id:Nat} {a:Act} {w:World} (hm:P.follows .mixedOrders=true) (I:Array Bool -> Act -> World -> Prop) (h0:I (Array.replicate ops.size false) a w.drew) (hz:∀ l a w,I l a w -> l.size=ops.size)
  (hs:∀ l a w,I l a w -> ∀ i,i∈Region.ready .any ops l -> wpOp P ops Q i (fun a' w'=>I (l.setIfInBounds i true) a' w') a w)
  (he:∀ l a w,I l a w -> Region.ready .any ops l=[] -> Q .normal a w):(Code.region id ops true).wp P Q a w:=
 wp_region_any hm (bu I hz hs he _ _ _ _ h0 (by unfold oc;have:=List.countP_le_length (p:=fun i => !(Array.replicate ops.size false).getD i true) (l:=List.range ops.size);simpa using this))
def pK (ops:Array Oper):Bool:=(List.range ops.size).all fun i=>((ops[i]?).map fun o=>o.after.all fun e => !Region.binds .any e || decide (e.on < i)).getD true
theorem xA {ops:Array Oper} {l:Array Bool} (hb:pK ops=true) (hz:l.size=ops.size) (h:Region.ready .any ops l=[]):∀ i,i < ops.size -> l.getD i false=true:=by
 intro i
 induction i using Nat.strongRecOn with
 | _ i ih =>
  intro hi;unfold Region.ready at h;rw [List.filter_eq_nil_iff] at h;have h1:=h i (List.mem_range.2 hi);have h2:=List.all_eq_true.1 hb i (List.mem_range.2 hi);rw [Array.getElem?_eq_getElem hi] at h1 h2;simp only [Option.map_some,Option.getD_some] at h1 h2
  have h3:(ops[i].after.all fun e => !Region.binds .any e || l.getD e.on false)=true:=by
   rw [Array.all_eq_true'];intro e he;have:=Array.all_eq_true'.1 h2 e he
   cases hb:Region.binds .any e with
   | false=>simp
   | true =>
    simp only [hb,Bool.not_true,Bool.false_or,decide_eq_true_eq] at this;rw [ih e.on this (by omega)];simp
  rw [h3] at h1
  have hl:i < l.size:=by omega
  simp [Array.getD,hl] at h1 ⊢;exact h1
theorem zU {l:Array Bool} {i:Nat} (h:i < l.size):(l.setIfInBounds i true).getD i false=true:=by simp [Array.getD,h]
theorem zb {l:Array Bool} {i j:Nat} (h:i≠j):(l.setIfInBounds i true).getD j false=l.getD j false:=by simp [Array.getD_eq_getD_getElem?,h]
theorem kE {l:Array Bool} {i:Nat} (h:l.getD i true=false):l.getD i false=false:=by
 rw [Array.getD_eq_getD_getElem?] at h ⊢
 cases hq:l[i]? with
 | none=>rw [hq] at h;cases h
 | some x=>rw [hq] at h;exact h
theorem vM (n i:Nat):(Array.replicate n false).getD i false=false:=by
 rw [Array.getD_eq_getD_getElem?,Array.getElem?_replicate];split <;> rfl
end
section
open Go.RowKit

abbrev ptr (g:Nat):Value:=.pointer (some ⟨g,0,none⟩)
def ik:Nat -> Sl:=fun _=>sl0
structure cH (wk:World) (pa pb:Pv) (l:Array Bool) (W:World) (va xa ca vb xb cb ba bb:Value):Prop where
 sz:l.size=10
 b:Below wk.heap.size wk W
 h0:l.getD 0 false=true -> va=PV pa
 h1:l.getD 1 false=true -> l.getD 8 false=false -> ∃ g,xa = .slice (some ⟨g,0,none⟩) 1 1/\eT W (some ⟨g,0,none⟩) 1 [pa]
 h2:l.getD 2 false=true -> ∃ F,ca=SAv F/\cX wk.heap.size W F (aA [pa])/\(l.getD 6 false=true -> ∀ g,ba=ptr g -> dF F g)/\(l.getD 7 false=true -> ∀ g,bb=ptr g -> dF F g)
 h3:l.getD 3 false=true -> vb=PV pb
 h4:l.getD 4 false=true -> l.getD 8 false=false -> ∃ g,xb = .slice (some ⟨g,0,none⟩) 1 1/\eT W (some ⟨g,0,none⟩) 1 [pb]
 h5:l.getD 5 false=true -> ∃ F,cb=SAv F/\cX wk.heap.size W F (aA [pb])/\(l.getD 6 false=true -> ∀ g,ba=ptr g -> dF F g)/\(l.getD 7 false=true -> ∀ g,bb=ptr g -> dF F g)
 h6:l.getD 6 false=true -> ∃ g,ba=ptr g/\wk.heap.size <= g/\g < W.heap.size/\(l.getD 8 false=false -> cw W g ik)/\(l.getD 8 false=true -> ∀ F,ca=SAv F -> cw W g F)
 h7:l.getD 7 false=true -> ∃ g,bb=ptr g/\wk.heap.size <= g/\g < W.heap.size/\(l.getD 9 false=false -> cw W g ik)/\(l.getD 9 false=true -> ∀ F,cb=SAv F -> cw W g F)
 h67:l.getD 6 false=true -> l.getD 7 false=true -> ba≠bb
 c8:l.getD 8 false=true -> l.getD 2 false=true/\l.getD 5 false=true/\l.getD 6 false=true/\l.getD 7 false=true
 c9:l.getD 9 false=true -> l.getD 5 false=true/\l.getD 7 false=true
section
variable {wk : World} {pa pb : Pv} {l : Array Bool} {W W' : World} {va xa ca vb xb cb ba bb : Value}
theorem zgW {F G:Nat -> Sl} (h:SAv F=SAv G):SA F=SA G:=by injection h
theorem cw.same {w:World} {g:Nat} {F G:Nat -> Sl} (h:cw w g F) (e:SAv G=SAv F):cw w g G:=by unfold cw at h ⊢;rw [zgW e];exact h
theorem dF.lo {lo:Nat} {F:Nat -> Sl} {G:Nat -> List Rn} (h:cX lo W F G) {g:Nat} (hg:g < lo):dF F g:=fun r hr ad e=>by have:=h.lo r hr ad e;omega
theorem dF.hi {lo:Nat} {F:Nat -> Sl} {G:Nat -> List Rn} (h:cX lo W F G):dF F W.heap.size:=fun r hr ad e=>by have:=h.hi r hr ad e;omega
theorem qW {g g':Nat} (h:ptr g=ptr g'):g=g':=by simpa [ptr] using h
theorem cH.on (T:cH wk pa pb l W va xa ca vb xb cb ba bb) (hb:Below W.heap.size W W'):cH wk pa pb l W' va xa ca vb xb cb ba bb:=by
 refine ⟨T.sz,T.b.trans (hb.mono T.b.size),T.h0,fun h h'=>?_,fun h=>?_,T.h3,fun h h'=>?_,fun h=>?_,fun h=>?_,fun h=>?_,T.h67,T.c8,T.c9⟩
 ·obtain ⟨g,e,R⟩:=T.h1 h h';exact ⟨g,e,R.below hb⟩
 ·obtain ⟨F,e,R,f⟩:=T.h2 h;exact ⟨F,e,R.below hb,f⟩
 ·obtain ⟨g,e,R⟩:=T.h4 h h';exact ⟨g,e,R.below hb⟩
 ·obtain ⟨F,e,R,f⟩:=T.h5 h;exact ⟨F,e,R.below hb,f⟩
 ·obtain ⟨g,e,h1,h2,h3,h4⟩:=T.h6 h;exact ⟨g,e,h1,Nat.lt_of_lt_of_le h2 hb.size,fun q=>(h3 q).below hb,fun q F e=>(h4 q F e).below hb⟩
 ·obtain ⟨g,e,h1,h2,h3,h4⟩:=T.h7 h;exact ⟨g,e,h1,Nat.lt_of_lt_of_le h2 hb.size,fun q=>(h3 q).below hb,fun q F e=>(h4 q F e).below hb⟩
theorem cH.s0 (T:cH wk pa pb l W va xa ca vb xb cb ba bb):cH wk pa pb (l.setIfInBounds 0 true) W (PV pa) xa ca vb xb cb ba bb:=by
 refine ⟨by simpa using T.sz,T.b,fun _=>rfl,?_,?_,?_,?_,?_,?_,?_,?_,?_,?_⟩ <;> simp only [zb (show (0:Nat)≠1 by decide),zb (show (0:Nat)≠2 by decide),zb (show (0:Nat)≠3 by decide),zb (show (0:Nat)≠4 by decide),zb (show (0:Nat)≠5 by decide),zb (show (0:Nat)≠6 by decide),zb (show (0:Nat)≠7 by decide),zb (show (0:Nat)≠8 by decide),zb (show (0:Nat)≠9 by decide)]
 ·exact T.h1
 ·exact T.h2
 ·exact T.h3
 ·exact T.h4
 ·exact T.h5
 ·exact T.h6
 ·exact T.h7
 ·exact T.h67
 ·exact fun h=>by have:=T.c8 h;simp [this]
 ·exact fun h=>by have:=T.c9 h;simp [this]
theorem cH.s3 (T:cH wk pa pb l W va xa ca vb xb cb ba bb):cH wk pa pb (l.setIfInBounds 3 true) W va xa ca (PV pb) xb cb ba bb:=by
 refine ⟨by simpa using T.sz,T.b,?_,?_,?_,fun _=>rfl,?_,?_,?_,?_,?_,?_,?_⟩ <;> simp only [zb (show (3:Nat)≠0 by decide),zb (show (3:Nat)≠1 by decide),zb (show (3:Nat)≠2 by decide),zb (show (3:Nat)≠4 by decide),zb (show (3:Nat)≠5 by decide),zb (show (3:Nat)≠6 by decide),zb (show (3:Nat)≠7 by decide),zb (show (3:Nat)≠8 by decide),zb (show (3:Nat)≠9 by decide)]
 ·exact T.h0
 ·exact T.h1
 ·exact T.h2
 ·exact T.h4
 ·exact T.h5
 ·exact T.h6
 ·exact T.h7
 ·exact T.h67
 ·exact fun h=>by have:=T.c8 h;simp [this]
 ·exact fun h=>by have:=T.c9 h;simp [this]
theorem cH.s1 (T:cH wk pa pb l W va xa ca vb xb cb ba bb) (hS:ak W pa):cH wk pa pb (l.setIfInBounds 1 true) (W.alloc (.cells (PC pa) 26)) va (.slice (some ⟨W.heap.size,0,none⟩) 1 1) ca vb xb cb ba bb:=by
 have T:=T.on (ze W (.cells (PC pa) 26));refine ⟨by simpa using T.sz,T.b,?_,fun _ _=>⟨_,rfl,vm W pa hS⟩,?_,?_,?_,?_,?_,?_,?_,?_,?_⟩ <;> simp only [zb (show (1:Nat)≠0 by decide),zb (show (1:Nat)≠2 by decide),zb (show (1:Nat)≠3 by decide),zb (show (1:Nat)≠4 by decide),zb (show (1:Nat)≠5 by decide),zb (show (1:Nat)≠6 by decide),zb (show (1:Nat)≠7 by decide),zb (show (1:Nat)≠8 by decide),zb (show (1:Nat)≠9 by decide)]
 ·exact T.h0
 ·exact T.h2
 ·exact T.h3
 ·exact T.h4
 ·exact T.h5
 ·exact T.h6
 ·exact T.h7
 ·exact T.h67
 ·exact fun h=>by have:=T.c8 h;simp [this]
 ·exact fun h=>by have:=T.c9 h;simp [this]
theorem cH.s4 (T:cH wk pa pb l W va xa ca vb xb cb ba bb) (hS:ak W pb):cH wk pa pb (l.setIfInBounds 4 true) (W.alloc (.cells (PC pb) 26)) va xa ca vb (.slice (some ⟨W.heap.size,0,none⟩) 1 1) cb ba bb:=by
 have T:=T.on (ze W (.cells (PC pb) 26));refine ⟨by simpa using T.sz,T.b,?_,?_,?_,?_,fun _ _=>⟨_,rfl,vm W pb hS⟩,?_,?_,?_,?_,?_,?_⟩ <;> simp only [zb (show (4:Nat)≠0 by decide),zb (show (4:Nat)≠1 by decide),zb (show (4:Nat)≠2 by decide),zb (show (4:Nat)≠3 by decide),zb (show (4:Nat)≠5 by decide),zb (show (4:Nat)≠6 by decide),zb (show (4:Nat)≠7 by decide),zb (show (4:Nat)≠8 by decide),zb (show (4:Nat)≠9 by decide)]
 ·exact T.h0
 ·exact T.h1
 ·exact T.h2
 ·exact T.h3
 ·exact T.h5
 ·exact T.h6
 ·exact T.h7
 ·exact T.h67
 ·exact fun h=>by have:=T.c8 h;simp [this]
 ·exact fun h=>by have:=T.c9 h;simp [this]
theorem cH.s2 (T:cH wk pa pb l W va xa ca vb xb cb ba bb) (h8:l.getD 8 false=false) {F:Nat -> Sl} (R:cX W.heap.size W' F (aA [pa])) (hb:Below W.heap.size W W'):cH wk pa pb (l.setIfInBounds 2 true) W' va xa (SAv F) vb xb cb ba bb:=by
 have hl:=T.b.size;have T':=T.on hb
 have f6:l.getD 6 false=true -> ∀ g,ba=ptr g -> dF F g:=fun h g e=>by
  obtain ⟨g',e',_,h2,_⟩:=T.h6 h;obtain rfl:=qW (e.symm.trans e');exact dF.lo R h2
 have f7:l.getD 7 false=true -> ∀ g,bb=ptr g -> dF F g:=fun h g e=>by
  obtain ⟨g',e',_,h2,_⟩:=T.h7 h;obtain rfl:=qW (e.symm.trans e');exact dF.lo R h2
 refine ⟨by simpa using T.sz,T'.b,?_,?_,?_,?_,?_,?_,?_,?_,?_,?_,?_⟩ <;> simp only [zU (show 2 < l.size by rw [T.sz];decide),zb (show (2:Nat)≠0 by decide),zb (show (2:Nat)≠1 by decide),zb (show (2:Nat)≠3 by decide),zb (show (2:Nat)≠4 by decide),zb (show (2:Nat)≠5 by decide),zb (show (2:Nat)≠6 by decide),zb (show (2:Nat)≠7 by decide),zb (show (2:Nat)≠8 by decide),zb (show (2:Nat)≠9 by decide)]
 ·exact T'.h0
 ·exact T'.h1
 ·exact fun _=>⟨F,rfl,⟨R.src,R.eq,fun r hr ad e=>Nat.le_trans hl (R.lo r hr ad e),R.hi⟩,f6,f7⟩
 ·exact T'.h3
 ·exact T'.h4
 ·exact T'.h5
 ·intro h;obtain ⟨g,e,h1,h2,h3,_⟩:=T'.h6 h;exact ⟨g,e,h1,h2,h3,fun q=>absurd q (by rw [h8];decide)⟩
 ·exact T'.h7
 ·exact T'.h67
 ·exact fun h=>by have:=T.c8 h;simp [this]
 ·exact fun h=>by have:=T.c9 h;simp [this]
theorem cH.s5 (T:cH wk pa pb l W va xa ca vb xb cb ba bb) (h9:l.getD 9 false=false) {F:Nat -> Sl} (R:cX W.heap.size W' F (aA [pb])) (hb:Below W.heap.size W W'):cH wk pa pb (l.setIfInBounds 5 true) W' va xa ca vb xb (SAv F) ba bb:=by
 have hl:=T.b.size;have T':=T.on hb
 have f6:l.getD 6 false=true -> ∀ g,ba=ptr g -> dF F g:=fun h g e=>by
  obtain ⟨g',e',_,h2,_⟩:=T.h6 h;obtain rfl:=qW (e.symm.trans e');exact dF.lo R h2
 have f7:l.getD 7 false=true -> ∀ g,bb=ptr g -> dF F g:=fun h g e=>by
  obtain ⟨g',e',_,h2,_⟩:=T.h7 h;obtain rfl:=qW (e.symm.trans e');exact dF.lo R h2
 refine ⟨by simpa using T.sz,T'.b,?_,?_,?_,?_,?_,?_,?_,?_,?_,?_,?_⟩ <;> simp only [zU (show 5 < l.size by rw [T.sz];decide),zb (show (5:Nat)≠0 by decide),zb (show (5:Nat)≠1 by decide),zb (show (5:Nat)≠2 by decide),zb (show (5:Nat)≠3 by decide),zb (show (5:Nat)≠4 by decide),zb (show (5:Nat)≠6 by decide),zb (show (5:Nat)≠7 by decide),zb (show (5:Nat)≠8 by decide),zb (show (5:Nat)≠9 by decide)]
 ·exact T'.h0
 ·exact T'.h1
 ·exact T'.h2
 ·exact T'.h3
 ·exact T'.h4
 ·exact fun _=>⟨F,rfl,⟨R.src,R.eq,fun r hr ad e=>Nat.le_trans hl (R.lo r hr ad e),R.hi⟩,f6,f7⟩
 ·exact T'.h6
 ·intro h;obtain ⟨g,e,h1,h2,h3,_⟩:=T'.h7 h;exact ⟨g,e,h1,h2,h3,fun q=>absurd q (by rw [h9];decide)⟩
 ·exact T'.h67
 ·exact fun h=>by have:=T.c8 h;simp [this]
 ·exact fun h=>by have:=T.c9 h;simp [this]
theorem cH.s6 (T:cH wk pa pb l W va xa ca vb xb cb ba bb) (h8:l.getD 8 false=false):cH wk pa pb (l.setIfInBounds 6 true) (W.alloc (.cells (SA ik) 113)) va xa ca vb xb cb (ptr W.heap.size) bb:=by
 have hl:=T.b.size;have T':=T.on (ze W (.cells (SA ik) 113))
 have n7:l.getD 7 false=true -> ptr W.heap.size≠bb:=fun h e=>by
  obtain ⟨g',e',_,h2,_⟩:=T.h7 h;have:=qW (e.trans e');omega
 refine ⟨by simpa using T.sz,T'.b,?_,?_,?_,?_,?_,?_,?_,?_,?_,?_,?_⟩ <;> simp only [zU (show 6 < l.size by rw [T.sz];decide),zb (show (6:Nat)≠0 by decide),zb (show (6:Nat)≠1 by decide),zb (show (6:Nat)≠2 by decide),zb (show (6:Nat)≠3 by decide),zb (show (6:Nat)≠4 by decide),zb (show (6:Nat)≠5 by decide),zb (show (6:Nat)≠7 by decide),zb (show (6:Nat)≠8 by decide),zb (show (6:Nat)≠9 by decide)]
 ·exact T'.h0
 ·exact T'.h1
 ·intro h;obtain ⟨F,e,R,_,f7⟩:=T.h2 h;exact ⟨F,e,R.below (ze _ _),fun _ g eg=>by obtain rfl:=qW eg;exact dF.hi R,f7⟩
 ·exact T'.h3
 ·exact T'.h4
 ·intro h;obtain ⟨F,e,R,_,f7⟩:=T.h5 h;exact ⟨F,e,R.below (ze _ _),fun _ g eg=>by obtain rfl:=qW eg;exact dF.hi R,f7⟩
 ·exact fun _=>⟨_,rfl,hl,by simp,fun _=>jc W ik,fun q=>absurd q (by rw [h8];decide)⟩
 ·exact T'.h7
 ·exact fun _=>n7
 ·exact fun h=>by have:=T.c8 h;simp [this]
 ·exact fun h=>by have:=T.c9 h;simp [this]
theorem cH.s7 (T:cH wk pa pb l W va xa ca vb xb cb ba bb) (h9:l.getD 9 false=false):cH wk pa pb (l.setIfInBounds 7 true) (W.alloc (.cells (SA ik) 113)) va xa ca vb xb cb ba (ptr W.heap.size):=by
 have hl:=T.b.size;have T':=T.on (ze W (.cells (SA ik) 113))
 have n6:l.getD 6 false=true -> ba≠ptr W.heap.size:=fun h e=>by
  obtain ⟨g',e',_,h2,_⟩:=T.h6 h;have:=qW (e.symm.trans e');omega
 refine ⟨by simpa using T.sz,T'.b,?_,?_,?_,?_,?_,?_,?_,?_,?_,?_,?_⟩ <;> simp only [zU (show 7 < l.size by rw [T.sz];decide),zb (show (7:Nat)≠0 by decide),zb (show (7:Nat)≠1 by decide),zb (show (7:Nat)≠2 by decide),zb (show (7:Nat)≠3 by decide),zb (show (7:Nat)≠4 by decide),zb (show (7:Nat)≠5 by decide),zb (show (7:Nat)≠6 by decide),zb (show (7:Nat)≠8 by decide),zb (show (7:Nat)≠9 by decide)]
 ·exact T'.h0
 ·exact T'.h1
 ·intro h;obtain ⟨F,e,R,f6,_⟩:=T.h2 h;exact ⟨F,e,R.below (ze _ _),f6,fun _ g eg=>by obtain rfl:=qW eg;exact dF.hi R⟩
 ·exact T'.h3
 ·exact T'.h4
 ·intro h;obtain ⟨F,e,R,f6,_⟩:=T.h5 h;exact ⟨F,e,R.below (ze _ _),f6,fun _ g eg=>by obtain rfl:=qW eg;exact dF.hi R⟩
 ·exact T'.h6
 ·exact fun _=>⟨_,rfl,hl,by simp,fun _=>jc W ik,fun q=>absurd q (by rw [h9];decide)⟩
 ·exact fun h _=>n6 h
 ·exact fun h=>by have:=T.c8 h;simp [this]
 ·exact fun h=>by have:=T.c9 h;simp [this]
theorem cH.s8 (T:cH wk pa pb l W va xa ca vb xb cb ba bb) (h2:l.getD 2 false=true) (h5:l.getD 5 false=true) (h6:l.getD 6 false=true) (h7:l.getD 7 false=true) (h8:l.getD 8 false=false) :
  ∃ F g,ca=SAv F/\ba=ptr g/\cw W g ik/\cH wk pa pb (l.setIfInBounds 8 true) (W.setRow g (SA F)) va xa ca vb xb cb ba bb:=by
 obtain ⟨F,eF,RF,f6,f7⟩:=T.h2 h2;obtain ⟨g,eg,g1,g2,g3,_⟩:=T.h6 h6;refine ⟨F,g,eF,eg,g3 h8,?_⟩
 have hz:∀ cs:Array Value,(W.setRow g cs).heap.size=W.heap.size:=fun cs=>by simp [World.setRow]
 refine ⟨by simpa using T.sz,zg T.b g1,?_,?_,?_,?_,?_,?_,?_,?_,?_,?_,?_⟩ <;> simp only [zU (show 8 < l.size by rw [T.sz];decide),zb (show (8:Nat)≠0 by decide),zb (show (8:Nat)≠1 by decide),zb (show (8:Nat)≠2 by decide),zb (show (8:Nat)≠3 by decide),zb (show (8:Nat)≠4 by decide),zb (show (8:Nat)≠5 by decide),zb (show (8:Nat)≠6 by decide),zb (show (8:Nat)≠7 by decide),zb (show (8:Nat)≠9 by decide)]
 ·exact T.h0
 ·exact fun _ h=>by cases h
 ·exact fun h=>⟨F,eF,RF.off (f6 h6 g eg) _,f6,f7⟩
 ·exact T.h3
 ·exact fun _ h=>by cases h
 ·intro h;obtain ⟨G,eG,RG,k6,k7⟩:=T.h5 h;exact ⟨G,eG,RG.off (k6 h6 g eg) _,k6,k7⟩
 ·exact fun _=>⟨g,eg,g1,by rw [hz];exact g2,fun h=>(by cases h),fun _ F' e'=>((g3 h8).setRow (F':=F)).same (e'.symm.trans eF)⟩
 ·intro h;obtain ⟨g',e',k1,k2,k3,k4⟩:=T.h7 h;have aT:g'≠g:=fun e=>T.h67 h6 h (by rw [eg,e',e]);exact ⟨g',e',k1,by rw [hz];exact k2,fun q=>(setRow_other _ _ _ _ aT).trans (k3 q),fun q G eG=>(setRow_other _ _ _ _ aT).trans (k4 q G eG)⟩
 ·exact T.h67
 ·exact fun _=>by simp [h2,h5,h6,h7]
 ·exact fun h=>by have:=T.c9 h;simp [this]
theorem cH.s9 (T:cH wk pa pb l W va xa ca vb xb cb ba bb) (h5:l.getD 5 false=true) (h7:l.getD 7 false=true) (h8:l.getD 8 false=true) (h9:l.getD 9 false=false) :
  ∃ F g,cb=SAv F/\bb=ptr g/\cw W g ik/\cH wk pa pb (l.setIfInBounds 9 true) (W.setRow g (SA F)) va xa ca vb xb cb ba bb:=by
 obtain ⟨F,eF,RF,f6,f7⟩:=T.h5 h5;obtain ⟨g,eg,g1,g2,g3,_⟩:=T.h7 h7;refine ⟨F,g,eF,eg,g3 h9,?_⟩
 have hz:∀ cs:Array Value,(W.setRow g cs).heap.size=W.heap.size:=fun cs=>by simp [World.setRow]
 refine ⟨by simpa using T.sz,zg T.b g1,?_,?_,?_,?_,?_,?_,?_,?_,?_,?_,?_⟩ <;> simp only [zU (show 9 < l.size by rw [T.sz];decide),zb (show (9:Nat)≠0 by decide),zb (show (9:Nat)≠1 by decide),zb (show (9:Nat)≠2 by decide),zb (show (9:Nat)≠3 by decide),zb (show (9:Nat)≠4 by decide),zb (show (9:Nat)≠5 by decide),zb (show (9:Nat)≠6 by decide),zb (show (9:Nat)≠7 by decide),zb (show (9:Nat)≠8 by decide)]
 ·exact T.h0
 ·exact fun _ h=>by rw [h8] at h;cases h
 ·intro h;obtain ⟨G,eG,RG,k6,k7⟩:=T.h2 h;exact ⟨G,eG,RG.off (k7 h7 g eg) _,k6,k7⟩
 ·exact T.h3
 ·exact fun _ h=>by rw [h8] at h;cases h
 ·exact fun h=>⟨F,eF,RF.off (f7 h7 g eg) _,f6,f7⟩
 ·intro h;obtain ⟨g',e',k1,k2,k3,k4⟩:=T.h6 h;have aT:g'≠g:=fun e=>T.h67 h h7 (by rw [eg,e',e]);exact ⟨g',e',k1,by rw [hz];exact k2,fun q=>(setRow_other _ _ _ _ aT).trans (k3 q),fun q G eG=>(setRow_other _ _ _ _ aT).trans (k4 q G eG)⟩
 ·exact fun _=>⟨g,eg,g1,by rw [hz];exact g2,fun h=>(by cases h),fun _ F' e'=>((g3 h9).setRow (F':=F)).same (e'.symm.trans eF)⟩
 ·exact T.h67
 ·exact fun h=>by have:=T.c8 h;simp [this]
 ·exact fun _=>by simp [h5,h7]
theorem cH.all (T:cH wk pa pb l W va xa ca vb xb cb ba bb) (h:∀ i,i < 10 -> l.getD i false=true) :
  ∃ F G g g',va=PV pa/\vb=PV pb/\ca=SAv F/\cb=SAv G/\ba=ptr g/\bb=ptr g'/\g≠g'/\wk.heap.size <= g/\wk.heap.size <= g'/\cw W g F/\cw W g' G/\cX wk.heap.size W F (aA [pa])/\cX wk.heap.size W G (aA [pb])/\dF F g/\dF G g/\Below wk.heap.size wk W:=by
 obtain ⟨F,eF,RF,f6,_⟩:=T.h2 (h 2 (by decide));obtain ⟨G,eG,RG,k6,_⟩:=T.h5 (h 5 (by decide));obtain ⟨g,eg,g1,_,_,g4⟩:=T.h6 (h 6 (by decide));obtain ⟨g',eg',g1',_,_,g4'⟩:=T.h7 (h 7 (by decide));exact ⟨F,G,g,g',T.h0 (h 0 (by decide)),T.h3 (h 3 (by decide)),eF,eG,eg,eg',fun e=>T.h67 (h 6 (by decide)) (h 7 (by decide)) (by rw [eg,eg',e]),g1,g1',g4 (h 8 (by decide)) F eF,g4' (h 9 (by decide)) G eG,RF,RG,f6 (h 6 (by decide)) g eg,k6 (h 6 (by decide)) g eg,T.b⟩
theorem cH.start (wk:World) (pa pb:Pv) (va xa ca vb xb cb ba bb:Value):cH wk pa pb (Array.replicate 10 false) wk.drew va xa ca vb xb cb ba bb:=by
 refine ⟨by simp,zd wk,?_,?_,?_,?_,?_,?_,?_,?_,?_,?_,?_⟩ <;> simp only [vM] <;> (intro h;cases h)
end
end
section
open Go.RowKit

def df (p:Pv) (g:Nat):Prop:=(0 < p.vn -> ∀ ad,p.vo=some ad -> ad.block≠g)/\(0 < p.cn -> ∀ ad,p.co=some ad -> ad.block≠g)
theorem df.new {n g:Nat} {p:Pv} (h:de n p) (hg:g < n):df p g:=⟨fun _ ad e=>by have:=h.1 ad e;omega,fun _ ad e=>by have:=h.2 ad e;omega⟩
theorem df.old {W:World} {p:Pv} (h:ak W p) {g:Nat} (hg:W.heap.size <= g):df p g:=by
 refine ⟨fun hn ad e he=>?_,fun hn ad e he=>?_⟩
 ·have:=World.block_lt_of_cell? _ _ (h.vec.2.2 ad e 0 hn);rw [zp] at this;omega
 ·have:=World.block_lt_of_cell? _ _ (h.cloud.cell ad e 0 hn).c0;rw [zp] at this;omega
theorem ak.far {W W':World} {p:Pv} (h:ak W p) {g:Nat} (hf:df p g) (hk:∀ q,q≠g -> W'.heap[q]? = W.heap[q]?):ak W' p:=by
 have ev:∀ ad,p.vo=some ad -> 0 < p.vn -> ∀ m,W'.cell? (ad.add m)=W.cell? (ad.add m):=fun ad e hn m=>by unfold World.cell?;rw [zp,hk _ (hf.1 hn ad e)]
 have ec:∀ ad,p.co=some ad -> 0 < p.cn -> ∀ m,W'.cell? (ad.add m)=W.cell? (ad.add m):=fun ad e hn m=>by unfold World.cell?;rw [zp,hk _ (hf.2 hn ad e)]
 refine ⟨⟨h.vec.1,h.vec.2.1,fun ad e t ht=>by rw [ev ad e (by omega)];exact h.vec.2.2 ad e t ht⟩,⟨h.cloud.len,h.cloud.nil,fun ad e t ht=>?_,h.cloud.big,h.cloud.cap⟩,h.big⟩;have A:=h.cloud.cell ad e t ht;have e':=ec ad e (by omega);exact ⟨by rw [e'];exact A.c0,by have:=A.c1;rw [qt] at this ⊢;rw [e'];exact this,by have:=A.c2;rw [qt] at this ⊢;rw [e'];exact this⟩
theorem zgX {p q:Pv} (h:PV p=PV q):PC p=PC q:=by injection h
theorem aE.same {w:World} {g:Nat} {p q:Pv} (h:aE w g p) (e:PV q=PV p):aE w g q:=by unfold aE at h ⊢;rw [zgX e];exact h
abbrev vat (vs:List Value) (i:Nat):Value:=vs.getD i undef
structure BI (n st:Nat) (wk:World) (Φ : Nat -> Value -> World -> Prop) (late:List Nat) (RL:List (Nat × (Pst -> Prop))) (AL:List (Nat × Nat × Nat)) (l:Array Bool) (W:World) (vs:List Value):Prop where
 sz:l.size=n
 ln:vs.length=n
 b:Below wk.heap.size wk W
 h:∀ i,i < n -> l.getD i false=true -> (i∈late -> l.getD st false=false) -> Φ i (vat vs i) W
 r:∀ x,x∈RL -> l.getD x.1 false=true -> ∃ p,vat vs x.1=PV p/\ak W p/\x.2 p.P/\∀ y,y∈AL -> l.getD y.1 false=true -> ∀ g,vat vs y.1=ptr g -> df p g
 a:∀ y,y∈AL -> l.getD y.1 false=true -> ∃ g,vat vs y.1=ptr g/\wk.heap.size <= g/\g < W.heap.size/\(l.getD y.2.1 false=false -> aE W g pv0)/\(l.getD y.2.1 false=true -> ∀ p,vat vs y.2.2=PV p -> aE W g p)
 d:∀ y z,y∈AL -> z∈AL -> y.1≠z.1 -> l.getD y.1 false=true -> l.getD z.1 false=true -> vat vs y.1≠vat vs z.1
 c:∀ y,y∈AL -> l.getD y.2.1 false=true -> l.getD y.1 false=true/\l.getD y.2.2 false=true/\l.getD st false=true
def od (Φ : Nat -> Value -> World -> Prop):Prop:=∀ i x W W',Φ i x W -> Below W.heap.size W W' -> Φ i x W'
section
variable {n st : Nat} {wk : World} {Φ : Nat -> Value -> World -> Prop} {late : List Nat} {RL : List (Nat × (Pst -> Prop))} {AL : List (Nat × Nat × Nat)} {l : Array Bool} {W W' : World} {vs : List Value}
theorem jF {i:Nat} {v:Value} (h:i < vs.length):vat (vs.set i v) i=v:=by simp [vat,List.getD,h]
theorem zv {i j:Nat} {v:Value} (h:i≠j):vat (vs.set i v) j=vat vs j:=by simp [vat,List.getD,h]
theorem BI.on (hm:od Φ) (T:BI n st wk Φ late RL AL l W vs) (hb:Below W.heap.size W W'):BI n st wk Φ late RL AL l W' vs:=by
 refine ⟨T.sz,T.ln,T.b.trans (hb.mono T.b.size),fun i h1 h2 h3=>hm _ _ _ _ (T.h i h1 h2 h3) hb,fun x hx hl=>?_,fun y hy hl=>?_,T.d,T.c⟩
 ·obtain ⟨p,e,S,q,f⟩:=T.r x hx hl;exact ⟨p,e,S.below hb,q,f⟩
 ·obtain ⟨g,e,h1,h2,h3,h4⟩:=T.a y hy hl;exact ⟨g,e,h1,Nat.lt_of_lt_of_le h2 hb.size,fun q=>(h3 q).below hb,fun q p e=>(h4 q p e).below hb⟩
theorem BI.plain (hm:od Φ) (T:BI n st wk Φ late RL AL l W vs) (hb:Below W.heap.size W W') (i:Nat) (hi:i < n) (hl:l.getD i false=false) (v:Value) (hΦ : Φ i v W') (h1:∀ x,x∈RL -> x.1≠i) (h2:∀ y,y∈AL -> y.1≠i/\y.2.1≠i) (h3:st≠i):BI n st wk Φ late RL AL (l.setIfInBounds i true) W' (vs.set i v):=by
 have T:=T.on hm hb
 have iJ:i < vs.length:=by rw [T.ln];exact hi
 have rW:i < l.size:=by rw [T.sz];exact hi
 have st':(l.setIfInBounds i true).getD st false=l.getD st false:=zb (fun e=>h3 e.symm);refine ⟨by simpa using T.sz,by simpa using T.ln,T.b,fun j hj eY aq=>?_,fun x hx hlx=>?_,fun y hy hly=>?_,fun y z hy hz aT hly hlz=>?_,fun y hy hls=>?_⟩
 ·by_cases e:i=j
  ·subst e;rw [jF iJ];exact hΦ
  ·rw [zv e];rw [zb e] at eY;rw [st'] at aq;exact T.h j hj eY aq
 ·have nd:i≠x.1:=fun e=>h1 x hx e.symm;rw [zb nd] at hlx;rw [zv nd];obtain ⟨p,e,S,q,f⟩:=T.r x hx hlx;refine ⟨p,e,S,q,fun y hy hly=>?_⟩;have eW:i≠y.1:=fun e=>(h2 y hy).1 e.symm;rw [zb eW] at hly;rw [zv eW];exact f y hy hly
 ·have eW:i≠y.1:=fun e=>(h2 y hy).1 e.symm;have ob:i≠y.2.1:=fun e=>(h2 y hy).2 e.symm;rw [zb eW] at hly;rw [zv eW,zb ob];obtain ⟨g,e,g1,g2,g3,g4⟩:=T.a y hy hly;refine ⟨g,e,g1,g2,g3,fun hs=>?_⟩
  have CH:i≠y.2.2:=fun e=>by
   have:=(T.c y hy hs).2.1;rw [<- e,hl] at this
   cases this
  rw [zv CH];exact g4 hs
 ·have eW:i≠y.1:=fun e=>(h2 y hy).1 e.symm;have dm:i≠z.1:=fun e=>(h2 z hz).1 e.symm;rw [zb eW] at hly;rw [zb dm] at hlz;rw [zv eW,zv dm];exact T.d y z hy hz aT hly hlz
 ·have eW:i≠y.1:=fun e=>(h2 y hy).1 e.symm;have ob:i≠y.2.1:=fun e=>(h2 y hy).2 e.symm;rw [zb ob] at hls;have hc:=T.c y hy hls;rw [zb eW,st'];refine ⟨hc.1,?_,hc.2.2⟩;by_cases e:i=y.2.2
  ·rw [<- e];exact zU rW
  ·rw [zb e];exact hc.2.1
theorem BI.make (hm:od Φ) (T:BI n st wk Φ late RL AL l W vs) (i s c:Nat) (hi:i < n) (hl:l.getD i false=false) (_:(i,s,c)∈AL) (hu:∀ y,y∈AL -> y.1=i -> y=(i,s,c)) (h1:∀ x,x∈RL -> x.1≠i) (h2:∀ y,y∈AL -> y.2.1≠i/\y.2.2≠i) (hΦ : ∀ v U,Φ i v U) (h3:st≠i):BI n st wk Φ late RL AL (l.setIfInBounds i true) (W.alloc (.cells (PC pv0) 26)) (vs.set i (ptr W.heap.size)):=by
 have T':=T.on hm (ze W (.cells (PC pv0) 26))
 have iJ:i < vs.length:=by rw [T.ln];exact hi
 have rW:i < l.size:=by rw [T.sz];exact hi
 have st':(l.setIfInBounds i true).getD st false=l.getD st false:=zb (fun e=>h3 e.symm);refine ⟨by simpa using T.sz,by simpa using T.ln,T'.b,fun j hj eY aq=>?_,fun x hx hlx=>?_,fun y hy hly=>?_,fun y z hy hz aT hly hlz=>?_,fun y hy hls=>?_⟩
 ·by_cases e:i=j
  ·subst e;exact hΦ _ _
  ·rw [zv e];rw [zb e] at eY;rw [st'] at aq;exact T'.h j hj eY aq
 ·have nd:i≠x.1:=fun e=>h1 x hx e.symm;rw [zb nd] at hlx;rw [zv nd];obtain ⟨p,e,S,q,f⟩:=T.r x hx hlx;refine ⟨p,e,S.below (ze _ _),q,fun y hy hly g eg=>?_⟩;by_cases e1:i=y.1
  ·rw [<- e1,jF iJ] at eg;obtain rfl:=qW eg;exact df.old S (Nat.le_refl _)
  ·rw [zb e1] at hly;rw [zv e1] at eg;exact f y hy hly g eg
 ·by_cases e1:i=y.1
  ·obtain rfl:=hu y hy e1.symm;refine ⟨W.heap.size,by rw [jF iJ],T.b.size,by simp,fun _=>zq W pv0,fun hs=>?_⟩;rw [zb (fun e=>(h2 _ hy).1 e.symm)] at hs;have:=(T.c _ hy hs).1;rw [hl] at this
   cases this
  ·have ob:i≠y.2.1:=fun e=>(h2 y hy).1 e.symm;rw [zb e1] at hly;rw [zv e1,zb ob,zv (fun e=>(h2 y hy).2 e.symm)];exact T'.a y hy hly
 ·by_cases e1:i=y.1
  ·have e2:i≠z.1:=fun e=>aT (by rw [<- e1,<- e]);rw [zb e2] at hlz;rw [<- e1,jF iJ,zv e2];obtain ⟨g,e,_,g2,_⟩:=T.a z hz hlz;intro h;have:=qW (h.trans e);omega
  ·rw [zb e1] at hly;rw [zv e1];by_cases e2:i=z.1
   ·rw [<- e2,jF iJ];obtain ⟨g,e,_,g2,_⟩:=T.a y hy hly;intro h;have:=qW (h.symm.trans e);omega
   ·rw [zb e2] at hlz;rw [zv e2];exact T.d y z hy hz aT hly hlz
 ·have ob:i≠y.2.1:=fun e=>(h2 y hy).1 e.symm;rw [zb ob] at hls;have hc:=T.c y hy hls;rw [st',zb (fun e=>(h2 y hy).2 e.symm)];refine ⟨?_,hc.2⟩;by_cases e:i=y.1
  ·rw [<- e];exact zU rW
  ·rw [zb e];exact hc.1
theorem BI.fill (T:BI n st wk Φ late RL AL l W vs) (i s c:Nat) (p:Pv) (hs:s < n) (hl:l.getD s false=false) (hA:(i,s,c)∈AL) (hu:∀ y,y∈AL -> y.2.1=s -> y=(i,s,c)) (hk:∀ y,y∈AL -> y.1=i -> y=(i,s,c)) (di:l.getD i false=true) (dc:l.getD c false=true) (dst:s=st∨l.getD st false=true) (hp:vat vs c=PV p) (h1:∀ x,x∈RL -> x.1≠s) (h2:∀ y,y∈AL -> y.1≠s/\y.2.2≠s)
  (hm:∀ j x U U',j ∉ late -> Φ j x U -> Φ j x U') (hΦ : ∀ v U,Φ s v U) (v:Value) :
  ∃ g,vat vs i=ptr g/\aE W g pv0/\BI n st wk Φ late RL AL (l.setIfInBounds s true) (W.setRow g (PC p)) (vs.set s v):=by
 obtain ⟨g,eg,g1,g2,g3,_⟩:=T.a _ hA di
 have iJ:s < vs.length:=by rw [T.ln];exact hs
 have ud:s < l.size:=by rw [T.sz];exact hs
 have cr:(l.setIfInBounds s true).getD st false=true:=by
  by_cases e:s=st
  ·rw [<- e];exact zU ud
  ·rw [zb e];exact dst.resolve_left e
 have hz:(W.setRow g (PC p)).heap.size=W.heap.size:=by simp [World.setRow]
 have my:∀ q,q≠g -> (W.setRow g (PC p)).heap[q]? = W.heap[q]?:=fun q hq=>setRow_other _ _ _ _ hq;refine ⟨g,eg,g3 hl,by simpa using T.sz,by simpa using T.ln,zg T.b g1,fun j hj eY aq=>?_,fun x hx hlx=>?_,fun y hy hly=>?_,fun y z hy El aT hly hlz=>?_,fun y hy hls=>?_⟩
 ·by_cases e:s=j
  ·subst e;exact hΦ _ _
  ·have iy:j ∉ late:=fun oL=>by have:=aq oL;rw [cr] at this;cases this
   rw [zv e];rw [zb e] at eY;exact hm j _ W _ iy (T.h j hj eY (fun oL=>absurd oL iy))
 ·have nd:s≠x.1:=fun e=>h1 x hx e.symm;rw [zb nd] at hlx;rw [zv nd];obtain ⟨p',e',S',q',f⟩:=T.r x hx hlx;refine ⟨p',e',S'.far (f _ hA di g eg) my,q',fun y hy hly=>?_⟩;have eW:s≠y.1:=fun e=>(h2 y hy).1 e.symm;rw [zb eW] at hly;rw [zv eW];exact f y hy hly
 ·have eW:s≠y.1:=fun e=>(h2 y hy).1 e.symm;rw [zb eW] at hly;rw [zv eW,zv (fun e=>(h2 y hy).2 e.symm)];by_cases e:y.1=i
  ·obtain rfl:=hk y hy e;refine ⟨g,eg,g1,by rw [hz];exact g2,fun h=>?_,fun _ q hq=>?_⟩
   ·rw [zU ud] at h;cases h
   ·have:aE (W.setRow g (PC p)) g p:=setRow_heap _ _ _ _ _ _ (g3 hl);exact this.same (hq.symm.trans hp)
  ·obtain ⟨g',eg',k1,k2,k3,k4⟩:=T.a y hy hly;have aT:g'≠g:=fun h=>T.d y _ hy hA (by exact e) hly di (by rw [eg',h];exact eg.symm)
   have ob:s≠y.2.1:=fun h=>by have:=hu y hy h.symm;rw [this] at e;exact e rfl
   rw [zb ob];exact ⟨g',eg',k1,by rw [hz];exact k2,fun q=>(my _ aT).trans (k3 q),fun q p' e'=>(my _ aT).trans (k4 q p' e')⟩
 ·have eW:s≠y.1:=fun e=>(h2 y hy).1 e.symm;have dm:s≠z.1:=fun e=>(h2 z El).1 e.symm;rw [zb eW] at hly;rw [zb dm] at hlz;rw [zv eW,zv dm];exact T.d y z hy El aT hly hlz
 ·have eW:s≠y.1:=fun e=>(h2 y hy).1 e.symm;have CH:s≠y.2.2:=fun e=>(h2 y hy).2 e.symm;rw [zb eW,zb CH];by_cases e:s=y.2.1
  ·obtain rfl:=hu y hy e.symm;exact ⟨di,dc,cr⟩
  ·rw [zb e] at hls;have:=T.c y hy hls;exact ⟨this.1,this.2.1,cr⟩
theorem BI.start (n st:Nat) (wk:World) (Φ : Nat -> Value -> World -> Prop) (late:List Nat) (RL:List (Nat × (Pst -> Prop))) (AL:List (Nat × Nat × Nat)) (vs:List Value) (h:vs.length=n):BI n st wk Φ late RL AL (Array.replicate n false) wk.drew vs:=by
 refine ⟨by simp,h,zd wk,?_,?_,?_,?_,?_⟩ <;> simp only [vM]
 ·intro i _ h;cases h
 ·intro x _ h;cases h
 ·intro y _ h;cases h
 ·intro y z _ _ _ h;cases h
 ·intro y _ h;cases h
end
end
section
open Go.RowKit
attribute [local go_sem ↓] zl zk
attribute [local go_sem] zw zf zW zh qs
section
variable {n st : Nat} {wk : World} {Φ : Nat -> Value -> World -> Prop} {late : List Nat} {RL : List (Nat × (Pst -> Prop))} {AL : List (Nat × Nat × Nat)} {l : Array Bool} {W W' : World} {vs : List Value}
theorem BI.callF (hm:od Φ) (T:BI n st wk Φ late RL AL l W vs) (hb:Below W.heap.size W W') (i:Nat) (S:Pst -> Prop) (hi:i < n) (hl:l.getD i false=false) (_:(i,S)∈RL) (hu:∀ x,x∈RL -> x.1=i -> x.2=S) (p:Pv) (hS:ak W' p) (hF:∀ g,wk.heap.size <= g -> g < W.heap.size -> df p g) (hp:S p.P) (hΦ : ∀ v U,Φ i v U) (h2:∀ y,y∈AL -> y.1≠i/\y.2.1≠i) (h3:st≠i):BI n st wk Φ late RL AL (l.setIfInBounds i true) W' (vs.set i (PV p)):=by
 have T':=T.on hm hb
 have iJ:i < vs.length:=by rw [T.ln];exact hi
 have rW:i < l.size:=by rw [T.sz];exact hi
 have st':(l.setIfInBounds i true).getD st false=l.getD st false:=zb (fun e=>h3 e.symm);refine ⟨by simpa using T.sz,by simpa using T.ln,T'.b,fun j hj eY aq=>?_,fun x hx hlx=>?_,fun y hy hly=>?_,fun y z hy hz aT hly hlz=>?_,fun y hy hls=>?_⟩
 ·by_cases e:i=j
  ·subst e;exact hΦ _ _
  ·rw [zv e];rw [zb e] at eY;rw [st'] at aq;exact T'.h j hj eY aq
 ·by_cases e:i=x.1
  ·have e2:=hu x hx e.symm;refine ⟨p,by rw [<- e,jF iJ],hS,by rw [e2];exact hp,fun y hy hly g eg=>?_⟩;have eW:i≠y.1:=fun e=>(h2 y hy).1 e.symm;rw [zb eW] at hly;rw [zv eW] at eg;obtain ⟨g',e',g1,g2,_⟩:=T.a y hy hly;obtain rfl:=qW (eg.symm.trans e');exact hF _ g1 g2
  ·rw [zb e] at hlx;rw [zv e];obtain ⟨p',e',S',q',f⟩:=T'.r x hx hlx;refine ⟨p',e',S',q',fun y hy hly=>?_⟩;have eW:i≠y.1:=fun e=>(h2 y hy).1 e.symm;rw [zb eW] at hly;rw [zv eW];exact f y hy hly
 ·have eW:i≠y.1:=fun e=>(h2 y hy).1 e.symm;have ob:i≠y.2.1:=fun e=>(h2 y hy).2 e.symm;rw [zb eW] at hly;rw [zv eW,zb ob];obtain ⟨g,e,g1,g2,g3,g4⟩:=T'.a y hy hly;refine ⟨g,e,g1,g2,g3,fun hs=>?_⟩
  have CH:i≠y.2.2:=fun e=>by
   have:=(T.c y hy hs).2.1;rw [<- e,hl] at this
   cases this
  rw [zv CH];exact g4 hs
 ·have eW:i≠y.1:=fun e=>(h2 y hy).1 e.symm;have dm:i≠z.1:=fun e=>(h2 z hz).1 e.symm;rw [zb eW] at hly;rw [zb dm] at hlz;rw [zv eW,zv dm];exact T.d y z hy hz aT hly hlz
 ·have eW:i≠y.1:=fun e=>(h2 y hy).1 e.symm;have ob:i≠y.2.1:=fun e=>(h2 y hy).2 e.symm;rw [zb ob] at hls;have hc:=T.c y hy hls;rw [zb eW,st'];refine ⟨hc.1,?_,hc.2.2⟩;by_cases e:i=y.2.2
  ·rw [<- e];exact zU rW
  ·rw [zb e];exact hc.2.1
end
def lA (w w':World) (e:Ending) (p:Pv) (Q:Pst -> Prop):Prop:=∃ q:Pv,e = .returned (PV q)/\ak w' q/\(q=p∨de w.heap.size q)/\Below w.heap.size w w'/\Q q.P
theorem yi (a:Pv) (w:World) (hS:ak w a):Calls Tryz.prog 127 #[PV a] w fun e w'=>lA w w' e a (ae (aa a.P)):=by
 have b0:=ze w (.cells (PC a) 26);have b1:=ze (w.alloc (.cells (PC a) 26)) (.cells (PC pv0) 26);have tS:=zq (w.alloc (.cells (PC a) 26)) pv0;rw [World.size_alloc] at tS;have fq:=hide ((zq w a).below b1);have aW:=hide (b0.trans (b1.mono b0.size));have HS:=hide (hS.below aW.out);have oq:=hide hS;have eo:=hide tS;clear hS b0 b1 tS;obtain ⟨wk,cq⟩:∃ wk,(w.alloc (.cells (PC a) 26)).alloc (.cells (PC pv0) 26)=wk:=⟨_,rfl⟩;rw [cq] at fq aW HS eo
 have HZ:Hid (wk.heap.size=w.heap.size+2):=by show _=_;rw [<- cq];simp
 have l1:=zi fq.out.at
 go_enter Tryz.func127,Tryz.ntmps127;go_wp2_with fail;clear cq;refine (qP a _ HS.out).mono ?_;rintro e w1 ⟨b,rfl,hb,b2⟩;have Ly:=hide hb;have cd:=wTr aW b2;have gP:=hide (eo.out.below b2);have eM:=hide (HS.out.below b2)
 have l2:=zi (fq.out.below b2).at
 have Mo:Hid (w.heap.size+2 <= w1.heap.size):=by have:=b2.size;have h:=HZ.out;show _ <= _;omega
 clear l1 hb b2 fq eo HS aW HZ
 cases b with
 | true =>
  have s1:=qJ (p':=a) gP.out;have dO:Hid (aE (w1.setRow (w.heap.size+1) (PC a)) (w.heap.size+1) a):=setRow_heap _ _ _ _ _ _ gP.out
  have eV:Hid (lA w (w1.setRow (w.heap.size+1) (PC a)) (.returned (PV a)) a (ae (aa a.P))):=by
   have hf:=Ly.out.out.1 rfl;exact ⟨a,rfl,eM.out.far (df.old oq.out (by omega)) (fun q hq=>setRow_other _ _ _ _ hq),Or.inl rfl,zg cd.out (by omega),jX hf.1 hf.2⟩
  go_wp2_with fail;exact bodyPost_ret (v:=PV a) (eQ Tryz.results127 rfl dO.out) rfl eV.out
 | false =>
  go_wp2_with fail;refine (kO a _ eM.out).mono ?_;rintro e w2 ⟨p,rfl,S2,n2,b3,c2⟩;obtain ⟨s1,e1,e2,e3,e4⟩:=xq (w:=w) (gP.out.below b3) S2 (n2.mono (by have:=Mo.out;omega)) (cd.out.trans (b3.mono cd.out.size)) (by omega);have dO:=hide e1;have eV:Hid (lA w (w2.setRow (w.heap.size+1) (PC p)) (.returned (PV p)) a (ae (aa a.P))):=⟨p,rfl,e2,Or.inr e3,e4,c2⟩;clear S2 n2 b3 c2 e1 e2 e3 e4 l2;go_wp2_with fail;exact bodyPost_ret (v:=PV p) (eQ Tryz.results127 rfl dO.out) rfl eV.out
end
section

def lex {α : Type} (c : α -> α -> Int):List α -> List α -> Int
 | [],[]=>0
 | [],_ :: _ => -1
 | _ :: _,[]=>1
 | x :: s,y :: t=>if c x y=0 then lex c s t else c x y
structure Tot {α : Type} (c : α -> α -> Int):Prop where
 rng:∀ x y,c x y = -1∨c x y=0∨c x y=1
 neg:∀ x y,c y x = - c x y
 eq:∀ x y,c x y=0↔x=y
 tr:∀ x y z,c x y <= 0 -> c y z <= 0 -> c x z <= 0
theorem Tot.lt {α : Type} {c : α -> α -> Int} (h:Tot c) {x y z : α} (h1:c x y < 0) (h2:c y z <= 0):c x z < 0:=by
 have h3:=h.tr x y z (by omega) h2;by_cases e:c x z=0
 ·have:=(h.eq x z).1 e;subst this;have:=h.neg x y;omega
 ·omega
theorem qZ:Tot au:=by
 refine ⟨fun x y=>?_,fun x y=>?_,fun x y=>?_,fun x y z=>?_⟩ <;> unfold au
 ·split
  ·omega
  ·split <;> omega
 ·split <;> split <;> (try split) <;> omega
 ·split
  ·omega
  ·split <;> omega
 ·intro h1 h2
  split at h1
  ·split at h2
   ·rw [if_pos (by omega)];omega
   ·split at h2
    ·omega
    ·rw [if_pos (by omega)];omega
  ·split at h1
   ·omega
   ·split at h2
    ·rw [if_pos (by omega)];omega
    ·split at h2
     ·omega
     ·rw [if_neg (by omega),if_neg (by omega)];omega
theorem Tot.lex {α : Type} {c : α -> α -> Int} (h:Tot c):Tot (lex c):=by
 refine ⟨?_,?_,?_,?_⟩
 ·intro x
  induction x with
  | nil=>intro y;cases y <;> simp [Go.Proofs.YtcilfelgpmfehaaGreat.lex]
  | cons a s ih =>
   intro y
   cases y with
   | nil=>simp [Go.Proofs.YtcilfelgpmfehaaGreat.lex]
   | cons b t =>
    simp only [Go.Proofs.YtcilfelgpmfehaaGreat.lex]
    split
    ·exact ih t
    ·exact h.rng a b
 ·intro x
  induction x with
  | nil=>intro y;cases y <;> simp [Go.Proofs.YtcilfelgpmfehaaGreat.lex]
  | cons a s ih =>
   intro y
   cases y with
   | nil=>simp [Go.Proofs.YtcilfelgpmfehaaGreat.lex]
   | cons b t =>
    simp only [Go.Proofs.YtcilfelgpmfehaaGreat.lex];have:=h.neg a b;by_cases e:c a b=0
    ·rw [if_pos e,if_pos (by omega)];exact ih t
    ·rw [if_neg e,if_neg (by omega)];exact this
 ·intro x
  induction x with
  | nil=>intro y;cases y <;> simp [Go.Proofs.YtcilfelgpmfehaaGreat.lex]
  | cons a s ih =>
   intro y
   cases y with
   | nil=>simp [Go.Proofs.YtcilfelgpmfehaaGreat.lex]
   | cons b t =>
    simp only [Go.Proofs.YtcilfelgpmfehaaGreat.lex];by_cases e:c a b=0
    ·rw [if_pos e,ih t];have:=(h.eq a b).1 e;subst this;simp
    ·rw [if_neg e];constructor
     ·intro g;exact absurd g e
     ·intro g
      have:a=b:=by injection g
      exact absurd ((h.eq a b).2 this) e
 ·intro x
  induction x with
  | nil =>
   intro y z h1 h2
   cases z with
   | nil=>simp [Go.Proofs.YtcilfelgpmfehaaGreat.lex]
   | cons d u=>simp [Go.Proofs.YtcilfelgpmfehaaGreat.lex]
  | cons a s ih =>
   intro y z h1 h2
   cases y with
   | nil=>simp [Go.Proofs.YtcilfelgpmfehaaGreat.lex] at h1
   | cons b t =>
    cases z with
    | nil=>simp [Go.Proofs.YtcilfelgpmfehaaGreat.lex] at h2
    | cons d u =>
     simp only [Go.Proofs.YtcilfelgpmfehaaGreat.lex] at h1 h2 ⊢;by_cases e1:c a b=0
     ·rw [if_pos e1] at h1;have:=(h.eq a b).1 e1;subst this;by_cases e2:c a d=0
      ·rw [if_pos e2] at h2 ⊢;exact ih t u h1 h2
      ·rw [if_neg e2] at h2 ⊢;exact h2
     ·rw [if_neg e1] at h1;by_cases e2:c b d=0
      ·have:=(h.eq b d).1 e2;subst this;rw [if_neg e1];exact h1
      ·rw [if_neg e2] at h2;have:=h.lt (x:=a) (y:=b) (z:=d) (by omega) h2;rw [if_neg (by omega)];omega
def both {α β γ : Type} (f : α -> β) (g : α -> γ) (c1 : β -> β -> Int) (c2 : γ -> γ -> Int) (x y : α):Int:=if c1 (f x) (f y)=0 then c2 (g x) (g y) else c1 (f x) (f y)
theorem Tot.both {α β γ : Type} {f : α -> β} {g : α -> γ} {c1 : β -> β -> Int} {c2 : γ -> γ -> Int} (h1:Tot c1) (h2:Tot c2) (hi:∀ x y,f x=f y -> g x=g y -> x=y):Tot (both f g c1 c2):=by
 refine ⟨fun x y=>?_,fun x y=>?_,fun x y=>?_,fun x y z=>?_⟩ <;> unfold Go.Proofs.YtcilfelgpmfehaaGreat.both
 ·split
  ·exact h2.rng _ _
  ·exact h1.rng _ _
 ·have:=h1.neg (f x) (f y);by_cases e:c1 (f x) (f y)=0
  ·rw [if_pos e,if_pos (by omega)];exact h2.neg _ _
  ·rw [if_neg e,if_neg (by omega)];exact this
 ·by_cases e:c1 (f x) (f y)=0
  ·rw [if_pos e,h2.eq];exact ⟨fun k=>hi x y ((h1.eq _ _).1 e) k,fun k=>by rw [k]⟩
  ·rw [if_neg e];exact ⟨fun k=>absurd k e,fun k=>absurd ((h1.eq _ _).2 (by rw [k])) e⟩
 ·intro a b;by_cases e1:c1 (f x) (f y)=0
  ·rw [if_pos e1] at a;have q:=(h1.eq _ _).1 e1;rw [q];by_cases e2:c1 (f y) (f z)=0
   ·rw [if_pos e2] at b ⊢;exact h2.tr _ _ _ a b
   ·rw [if_neg e2] at b ⊢;exact b
  ·rw [if_neg e1] at a;by_cases e2:c1 (f y) (f z)=0
   ·have q:=(h1.eq _ _).1 e2;rw [<- q,if_neg e1];exact a
   ·rw [if_neg e2] at b;have:=h1.lt (x:=f x) (y:=f y) (z:=f z) (by omega) b;rw [if_neg (by omega)];omega
theorem zgv {x y:Sn} (h1:x.rep=y.rep) (h2:x.lo=y.lo) (h3:x.hi=y.hi):x=y:=by
 cases x;cases y;simp_all
def cQ (x y:Sn):Int:=if au x.rep y.rep=0 then (if au x.lo y.lo=0 then au x.hi y.hi else au x.lo y.lo) else au x.rep y.rep
theorem xy:Tot cQ:=by
 have h:Tot (both (fun x:Int × Int × Int=>x.1) (fun x=>x.2) au (both (fun x:Int × Int=>x.1) (fun x=>x.2) au au)):=
  Tot.both qZ (Tot.both qZ qZ (fun x y h1 h2=>Prod.ext h1 h2)) (fun x y h1 h2=>Prod.ext h1 h2)
 have e:∀ x y,cQ x y=both (fun x:Int × Int × Int=>x.1) (fun x=>x.2) au (both (fun x:Int × Int=>x.1) (fun x=>x.2) au au) (x.rep,x.lo,x.hi) (y.rep,y.lo,y.hi):=fun x y=>rfl;refine ⟨fun x y=>?_,fun x y=>?_,fun x y=>?_,fun x y z=>?_⟩
 ·rw [e];exact h.rng _ _
 ·rw [e,e];exact h.neg _ _
 ·rw [e,h.eq];constructor
  ·intro g;simp only [Prod.mk.injEq] at g;exact zgv g.1 g.2.1 g.2.2
  ·intro g;rw [g]
 ·rw [e,e,e];exact h.tr _ _ _
def dJ (P Q:Pst):Int:=if lex au P.vec Q.vec=0 then lex cQ P.cloud Q.cloud else lex au P.vec Q.vec
theorem zeU:Tot dJ:=Tot.both (f:=Pst.vec) (g:=Pst.cloud) qZ.lex xy.lex (fun x y h1 h2=>by cases x;cases y;simp_all)
theorem jk {α : Type} {c : α -> α -> Int} (hc:Tot c) (A B:List α):∀ k,A.take k=B.take k -> k <= A.length -> k <= B.length -> lex c A B=lex c (A.drop k) (B.drop k)
 | 0,_,_,_=>rfl
 | k+1,h,h1,h2=>by
  cases A with
  | nil=>simp at h1
  | cons a s =>
   cases B with
   | nil=>simp at h2
   | cons b t =>
    simp only [List.take_succ_cons,List.cons.injEq] at h;obtain ⟨rfl,h⟩:=h;have e:=(hc.eq a a).2 rfl;rw [Go.Proofs.YtcilfelgpmfehaaGreat.lex,if_pos e];exact jk hc s t k h (by simpa using h1) (by simpa using h2)
end
section
open Go.RowKit

theorem wh (x y:Int) (w:World):Calls Tryz.prog 122 #[.int .i64 x,.int .i64 y] w fun e w'=>e = .returned (.int .i64 (au x y))/\Below w.heap.size w w':=(qQ x y w).mono fun _ _ h=>⟨h.1,by rw [h.2];exact Below.refl _ _⟩
def orL:List Int -> Int
 | []=>0
 | a :: t=>if a=0 then orL t else a
theorem we {α : Type} (L:List α) (k:Nat) (d : α) (h:k < L.length):L.drop k=L.getD k d :: L.drop (k+1):=by
 rw [List.drop_eq_getElem_cons h];simp [List.getD,h]
theorem zcW (ao:Option Addr) (n c:Nat) (Z:List Int) (w:World) (hS:V.Src w ao n c Z) (gn:n <= 17592186044415) :
  Calls Tryz.prog 121 #[.slice ao n c] w fun e w'=>e = .returned (.int .i64 (orL Z))/\Below w.heap.size w w':=by
 have HS:=hide hS;have HL:Hid (Z.length=n):=hS.1;clear hS;go_enter Tryz.func121,Tryz.ntmps121;go_wp2_with fail;go_loopw [8] (fun i wr=>∃ k:Nat,k <= n/\i = .int .i64 k/\Hid (orL Z=orL (Z.drop k))/\wr=w) (fun i _=>n - (intOf i).toNat)
 case atStart=>exact ⟨0,Nat.zero_le _,rfl,rfl,rfl⟩
 case round =>
  obtain ⟨k,hk,rfl,HO,rfl⟩:=hrel;by_cases aq:k < n
  ·obtain ⟨ad,rfl,ca⟩:=HS.out.at k aq;have HD:=hide (we Z k 0 (by rw [HL.out];exact aq));obtain ⟨z,Hz⟩:∃ z,Hid (Z.getD k 0=z):=⟨_,rfl⟩;rw [Hz.out] at ca HD;by_cases h0:z=0
   ·have lF:(z != 0)=false:=by simpa using h0
    have HN:Hid (orL Z=orL (Z.drop (k+1))):=by show _=_;rw [HO.out,HD.out,orL,if_pos h0]
    clear h0;go_wp2_with fail;go_roundw
    case rel=>exact ⟨k+1,by omega,by go_num,HN,by trivial⟩
    case measure=>simp [intOf];omega
   ·have lF:(z != 0)=true:=by simpa using h0
    have HN:Hid (orL Z=z):=by show _=_;rw [HO.out,HD.out,orL,if_neg h0]
    clear h0;go_wp2_with fail;go_ret;exact ⟨zx HN.out.symm,Below.refl _ _⟩
  ·obtain rfl:k=n:=by omega
   have HN:Hid (orL Z=0):=by show _=_;rw [HO.out,List.drop_of_length_le (by rw [HL.out];exact Nat.le_refl _)];rfl
   go_wp2_with fail;go_ret;exact ⟨zx HN.out.symm,Below.refl _ _⟩
section
variable {α : Type} {c : α -> α -> Int} {A B : List α} {k : Nat}
theorem zbt (hc:Tot c) (h:A.take k=B.take k) (ha:k < A.length) (hb:B.length=k):lex c A B=1:=by
 rw [jk hc A B k h (by omega) (by omega),List.drop_of_length_le (l:=B) (by omega),List.drop_eq_getElem_cons ha];rfl
theorem zbu (hc:Tot c) (h:A.take k=B.take k) (ha:A.length=k) (hb:k < B.length):lex c A B = -1:=by
 rw [jk hc A B k h (by omega) (by omega),List.drop_of_length_le (l:=A) (by omega),List.drop_eq_getElem_cons hb];rfl
theorem zbs (hc:Tot c) (h:A.take k=B.take k) (ha:A.length=k) (hb:B.length=k):lex c A B=0:=by
 rw [jk hc A B k h (by omega) (by omega),List.drop_of_length_le (l:=A) (by omega),List.drop_of_length_le (l:=B) (by omega)];rfl
theorem zbv (hc:Tot c) (d : α) (h:A.take k=B.take k) (ha:k < A.length) (hb:k < B.length) (hn:¬ c (A.getD k d) (B.getD k d)=0):lex c A B=c (A.getD k d) (B.getD k d):=by
 rw [jk hc A B k h (by omega) (by omega),we A k d ha,we B k d hb,lex,if_neg hn]
theorem zcz (hc:Tot c) (d : α) (h:A.take k=B.take k) (ha:k < A.length) (hb:k < B.length) (hn:c (A.getD k d) (B.getD k d)=0):A.take (k+1)=B.take (k+1):=by
 have e:=(hc.eq _ _).1 hn;rw [List.take_succ_eq_append_getElem ha,List.take_succ_eq_append_getElem hb,h];simp only [List.getD,List.getElem?_eq_getElem ha,List.getElem?_eq_getElem hb,Option.getD_some] at e;rw [e]
end
theorem yA (ao bo:Option Addr) (n cn m cm:Nat) (A B:List Int) (w:World) (hA:V.Src w ao n cn A) (hB:V.Src w bo m cm B) (gn:n <= 17592186044415) (_:m <= 17592186044415) :
  Calls Tryz.prog 128 #[.slice ao n cn,.slice bo m cm] w fun e w'=>e = .returned (.int .i64 (lex au A B))/\Below w.heap.size w w':=by
 have HA:=hide hA;have HB:=hide hB;have rB:Hid (A.length=n):=hA.1;have rJ:Hid (B.length=m):=hB.1;clear hA hB;go_enter Tryz.func128,Tryz.ntmps128;go_wp2_with fail;go_loopw [11] (fun i wr=>∃ k:Nat,k <= n/\i = .int .i64 k/\Hid (A.take k=B.take k/\k <= m)/\wr=w) (fun i _=>n - (intOf i).toNat)
 case atStart=>exact ⟨0,Nat.zero_le _,rfl,⟨rfl,Nat.zero_le _⟩,rfl⟩
 case round =>
  obtain ⟨k,hk,rfl,HO,rfl⟩:=hrel;have LR:=HO.out.2;by_cases aq:k < n
  ·obtain ⟨ad,rfl,ca⟩:=HA.out.at k aq;by_cases hm:k < m
   ·obtain ⟨bd,rfl,cb⟩:=HB.out.at k hm
    have up:Hid (k < A.length):=by rw [rB.out];exact aq
    have gZ:Hid (k < B.length):=by rw [rJ.out];exact hm
    have oL:¬ (m:Int) <= (k:Int):=by omega
    by_cases h0:au (A.getD k 0) (B.getD k 0)=0
    ·have HN:=hide (zcz qZ 0 HO.out.1 up.out gZ.out h0);obtain ⟨z,hz⟩:∃ z,au (A.getD k 0) (B.getD k 0)=z:=⟨_,rfl⟩;have HZ:=hide hz;rw [hz] at h0;subst h0;clear hz;obtain ⟨x,hx⟩:∃ x,A.getD k 0=x:=⟨_,rfl⟩;obtain ⟨y,hy⟩:∃ y,B.getD k 0=y:=⟨_,rfl⟩;rw [hx] at ca HZ;rw [hy] at cb HZ;clear hx hy;go_wp2_with (go_at_call 122;refine (qQ x y _).mono ?_;rintro e w' ⟨rfl,rfl⟩;rw [HZ.out]);go_roundw
     case rel=>exact ⟨k+1,by omega,by go_num,⟨HN.out,by omega⟩,by trivial⟩
     case measure=>simp [intOf];omega
    ·have HN:=hide (zbv qZ 0 HO.out.1 up.out gZ.out h0);obtain ⟨z,hz⟩:∃ z,au (A.getD k 0) (B.getD k 0)=z:=⟨_,rfl⟩;have HZ:=hide hz;rw [hz] at h0 HN
     have lF:(z != 0)=true:=by simpa using h0
     clear hz h0;obtain ⟨x,hx⟩:∃ x,A.getD k 0=x:=⟨_,rfl⟩;obtain ⟨y,hy⟩:∃ y,B.getD k 0=y:=⟨_,rfl⟩;rw [hx] at ca HZ;rw [hy] at cb HZ;clear hx hy;go_wp2_with (go_at_call 122;refine (qQ x y _).mono ?_;rintro e w' ⟨rfl,rfl⟩;rw [HZ.out]);go_ret;exact ⟨zx HN.out.symm,Below.refl _ _⟩
   ·have oL:(m:Int) <= (k:Int):=by omega
    have HN:=hide (zbt qZ HO.out.1 (by rw [rB.out];exact aq) (by rw [rJ.out];omega));go_wp2_with fail;go_ret;exact ⟨zx HN.out.symm,Below.refl _ _⟩
  ·obtain rfl:k=n:=by omega
   by_cases hm:k < m
   ·have oL:(k:Int) < (m:Int):=by omega
    have HN:=hide (zbu qZ HO.out.1 rB.out (by rw [rJ.out];exact hm));go_wp2_with fail;go_ret;exact ⟨zx HN.out.symm,Below.refl _ _⟩
   ·have oL:¬ (k:Int) < (m:Int):=by omega
    have HN:=hide (zbs qZ HO.out.1 rB.out (by rw [rJ.out];omega));go_wp2_with fail;go_ret;exact ⟨zx HN.out.symm,Below.refl _ _⟩
end
end Go.Proofs.YtcilfelgpmfehaaGreat
