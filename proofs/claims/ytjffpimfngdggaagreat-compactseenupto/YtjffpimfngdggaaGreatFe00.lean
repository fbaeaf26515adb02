/- RKit VKa VKb QIn RPu RSl PKa QJa RPv QTp QMp -/
import Derived.Test.YtjffpimfngdggaaGreatRows
import Derived.WalkKit
import Derived.WalkSpells
import Derived.Deep.QuietTactic
import Derived.BigQuiet
import Derived.Deep.RegionHeld
import Derived.Lib.QuietBelow
import Derived.Laws.Cells
import Derived.Laws.Tables
import Derived.Laws.CopyOwn
import Derived.Lib.OthersKept
import Derived.Deep.RegionWith
import Derived.Laws.MakeOwn
import Derived.Laws.AppendOwnNone
import Derived.Maps.AppendAt
import Derived.Deep.RegionLaw
set_option maxHeartbeats 1600000
namespace Go.Proofs.YtjffpimfngdggaaGreat
open Go.RowKit

theorem hide {p:Prop} (h:p):Hid p:=h
theorem zu {a b:Bool} (h:a=b):Ending.returned (.bool a) = .returned (.bool b):=by rw [h]
theorem zH {k:IntKind} {a b:Int} (h:a=b):Ending.returned (.int k a) = .returned (.int k b):=by rw [h]
theorem ze (w:World) (o:Obj):Below w.heap.size w (w.alloc o):=(Below.refl _ _).alloc (Nat.le_refl _) _
theorem zg (w:World):Below w.heap.size w w.drew:=⟨rfl,rfl,rfl,Nat.le_refl _,fun _ _=>rfl⟩
theorem add_zero (p:Addr):p.add 0=p:=by unfold Addr.add;split <;> simp_all
theorem zs (p:Addr) (m:Nat):(p.add m).block=p.block:=by unfold Addr.add;split <;> rfl
theorem qC (p:Addr) (i j:Nat):(p.add i).add j=p.add (i+j):=by
 unfold Addr.add;split <;> split <;> simp_all [Nat.add_assoc]
structure Rn where
 lo:Int
 hi:Int
instance:DecidableEq Rn:=fun a b=>decidable_of_iff (a.lo=b.lo/\a.hi=b.hi) ⟨fun ⟨h1,h2⟩=>by cases a;cases b;simp_all,fun h=>by subst h;exact ⟨rfl,rfl⟩⟩
def rn0:Rn:=⟨0,0⟩
instance:Inhabited Rn:=⟨rn0⟩
def RC (r:Rn):Array Value:=#[.int .i64 r.lo,.int .i64 r.hi]
abbrev RV (r:Rn):Value:=.agg (RC r)
theorem zN (r:Rn):(RC r).size=2:=rfl
theorem jX (r:Rn):∀ v∈(RC r).toList,v.oneCell'=true:=by
 intro v hv;simp [RC] at hv;rcases hv with rfl | rfl <;> rfl
theorem zC (r:Rn):(RV r).cells=RC r:=by simp [Value.cells]
theorem zS:(#[.int .i64 0,.int .i64 0]:Array Value)=RC rn0:=rfl
theorem ql (r:Rn):Array.foldl (fun cs x=>cs.setIfInBounds x.snd x.fst) (RC rn0) (RC r).zipIdx 0 2=RC r:=rfl
structure gd (w:World) (p:Addr) (r:Rn):Prop where
 c0:w.cell? p=some (.int .i64 r.lo)
 c1:w.cell? (p.add 1)=some (.int .i64 r.hi)
theorem gd.on {w w':World} {p:Addr} {r:Rn} (S:gd w p r) (hb:Below w.heap.size w w'):gd w' p r:=by
 have h0:=World.block_lt_of_cell? _ _ S.c0;exact ⟨by rw [hb.cell h0];exact S.c0,by rw [hb.cell (by rw [zs];exact h0)];exact S.c1⟩
def Box (w:World) (g:Nat) (T:TypeId) (r:Rn):Prop:=w.heap[g]? = some (.cells (RC r) T (0,0))
theorem Box.lt {w:World} {g:Nat} {T:TypeId} {r:Rn} (h:Box w g T r):g < w.heap.size:=(Array.getElem?_eq_some_iff.1 h).1
theorem Box.at {w:World} {g:Nat} {T:TypeId} {r:Rn} (h:Box w g T r):gd w ⟨g,0,none⟩ r:=by
 unfold Box at h;refine ⟨?_,?_⟩ <;> simp [Addr.add,World.cell?,h,RC]
theorem Box.below {w w':World} {g:Nat} {T:TypeId} {r:Rn} (h:Box w g T r) (hb:Below w.heap.size w w'):Box w' g T r:=(hb.block g h.lt).trans h
theorem zT (w:World) (T:TypeId) (r:Rn):Box (w.alloc (.cells (RC r) T)) w.heap.size T r:=by unfold Box;rw [heap_alloc_new]
def ldR (v:Value):Sem Value:=Instr.loadAt 182 v
theorem kM (v:Value):Instr.loadAt 182 v=ldR v:=rfl
def stR (p v:Value):Sem Unit:=Instr.storeAt 182 p v
theorem ky (p v:Value):Instr.storeAt 182 p v=stR p v:=rfl
theorem oG:(Tryz.prog.info? 182).map (·.size)=some 2:=by kernel_rfl
theorem rE:(Tryz.prog.info? 182).map (fun i=>(i.zero,i.size,i.bytes))=some (some (.agg #[.int .i64 0,.int .i64 0]),2,16):=by kernel_rfl
theorem zed {w:World} {p:Addr} {r:Rn} (A:gd w p r):(loadVar 182 p).run Tryz.prog w = .ok (RV r) w:=by
 have hl:=run_loadCells_list (P:=Tryz.prog) (w:=w) p (RC r).toList (fun j v hv=>by
  match j,hv with
  | 0,hv=>cases hv;rw [add_zero];exact A.c0
  | 1,hv=>cases hv;exact A.c1
  | j+2,hv=>simp [RC] at hv)
 cases hq:Tryz.prog.info? 182 with
 | none=>have:=oG;simp [hq] at this
 | some x =>
  have hs:x.size=2:=by have:=oG;simpa [hq] using this
  have dR:(isAgg 182).run Tryz.prog w = .ok true w:=by
   unfold isAgg;rw [Sem.run_bind,run_underlying Tryz.underlying182 w];rfl
  have e2:(RC r).toList.length=2:=rfl;rw [e2] at hl;simp [loadVar,Sem.run_bind,dR,sizeOf,typeInfo,hq,hs,hl,RV]
theorem jg {w:World} {p:Addr} {r:Rn} (A:gd w p r):(ldR (.pointer (some p))).run Tryz.prog w = .ok (RV r) w:=by
 unfold ldR;simp only [Instr.loadAt,Instr.sureAddr,Sem.run_bind,Sem.run_pure,Result.andThen];exact zed A
theorem zec {w:World} {g:Nat} {T:TypeId} {r r':Rn} (A:Box w g T r) :
  (stR (.pointer (some ⟨g,0,none⟩)) (RV r')).run Tryz.prog w = .ok () (w.setRow g (RC r')):=by
 unfold stR;have h:=run_storeCells_from (P:=Tryz.prog) g T (RC r').toList 0 (RC r) w A (by simp [RC]) (jX r')
 cases hq:Tryz.prog.info? 182 with
 | none=>have:=oG;simp [hq] at this
 | some x =>
  have hs:x.size=2:=by have:=oG;simpa [hq] using this
  simp only [Instr.storeAt,Instr.sureAddr,Sem.run_bind,Sem.run_pure,Result.andThen,storeVar,sizeOf,typeInfo,zC,zN];simp at h;simp [h,hq,hs]
theorem Box.setRow {w:World} {g:Nat} {T:TypeId} {r r':Rn} (A:Box w g T r):Box (w.setRow g (RC r')) g T r':=setRow_heap w g _ _ _ _ A
theorem zh {w w':World} {n g:Nat} {cs:Array Value} (h:Below n w w') (hg:n <= g):Below n w (w'.setRow g cs):=
 h.trans ⟨rfl,rfl,rfl,by simp [World.setRow],fun k hk=>setRow_other _ _ _ _ (by omega)⟩
theorem made (w:World) (r:Rn) (g:Nat) (hg:w.heap.size=g):∃ w':World,(stR (.pointer (some ⟨g,0,none⟩)) (RV r)).run Tryz.prog (w.alloc (.cells (RC rn0) 182)) = .ok () w'/\Box w' g 182 r/\Below w.heap.size w w'/\w'.heap.size=w.heap.size+1:=by
 subst hg;refine ⟨_,zec (zT w 182 rn0),(zT w 182 rn0).setRow,zh (ze w _) (Nat.le_refl _),by simp [World.setRow]⟩
structure aX (w:World) (ao:Option Addr) (m c:Nat) (L:List Rn):Prop where
 len:L.length=m
 nil:ao=none -> m=0/\c=0
 cell:∀ ad,ao=some ad -> ∀ t,t < m -> gd w (ad.add (t * 2)) (L.getD t rn0)
 cap:m <= c
 room:c <= maxLen
 big:m <= 8796093022207
theorem aX.below {w w':World} {ao:Option Addr} {m c:Nat} {L:List Rn} (h:aX w ao m c L) (hb:Below w.heap.size w w'):aX w' ao m c L:=
 ⟨h.len,h.nil,fun ad ha t ht=>(h.cell ad ha t ht).on hb,h.cap,h.room,h.big⟩
theorem aX.at {w:World} {ao:Option Addr} {m c:Nat} {L:List Rn} (h:aX w ao m c L) (k:Nat) (hk:k < m):∃ ad,ao=some ad/\gd w (ad.add (k * 2)) (L.getD k rn0):=by
 cases ao with
 | none=>have:=h.nil rfl;omega
 | some ad=>exact ⟨ad,rfl,h.cell ad rfl k hk⟩
theorem aX.empty (w:World):aX w none 0 0 []:=⟨rfl,fun _=>⟨rfl,rfl⟩,(fun ad h=>by cases h),Nat.le_refl _,Nat.zero_le _,by omega⟩
theorem aX.spot {w:World} {ad:Addr} {m c:Nat} {L:List Rn} (h:aX w (some ad) m c L) (hm:0 < m):∃ b o,ad=⟨b,o,none⟩:=by
 have:=World.cell?_spot (h.cell ad rfl 0 hm).c0;obtain ⟨b,o,s⟩:=ad
 have hs:s=none:=by simpa [Addr.add] using this
 exact ⟨b,o,by rw [hs]⟩
theorem aX.nums {w:World} {b o m c:Nat} {L:List Rn} (h:aX w (some ⟨b,o,none⟩) m c L) (k:Nat) (hk:k < m):w.cell? ⟨b,o+k * 2,none⟩=some (.int .i64 (L.getD k rn0).lo)/\w.cell? ⟨b,o+k * 2+1,none⟩=some (.int .i64 (L.getD k rn0).hi):=by
 have A:=h.cell _ rfl k hk;have h0:=A.c0;have h1:=A.c1;rw [Addr.add_lit] at h0 h1;rw [Addr.add_lit] at h1;exact ⟨h0,h1⟩
theorem aX.tail {w:World} {b o m c:Nat} {r:Rn} {L:List Rn} (h:aX w (some ⟨b,o,none⟩) m c (r :: L)):aX w (some ⟨b,o+2,none⟩) (m - 1) (c - 1) L:=by
 have hl:=h.len;simp at hl;refine ⟨by omega,fun e=>(by cases e),fun ad ha t ht=>?_,by have:=h.cap;omega,by have:=h.room;omega,by have:=h.big;omega⟩;obtain rfl:=Option.some.inj ha;have:=h.cell _ rfl (t+1) (by omega);rw [Addr.add_lit] at this ⊢;rw [show o+2+t * 2=o+(t+1) * 2 by omega];simpa [List.getD] using this
def rcs (L:List Rn):List Value:=(L.map (fun r=>(RC r).toList)).flatten
theorem xr (L R:List Rn):rcs (L++R)=rcs L++rcs R:=by simp [rcs]
theorem ki (r:Rn):rcs [r]=(RC r).toList:=by simp [rcs]
theorem qt (L:List Rn):(rcs L).length=L.length * 2:=by
 induction L with
 | nil=>rfl
 | cons a L ih=>have:rcs (a :: L)=(RC a).toList++rcs L:=rfl;rw [this,List.length_append,ih];simp [RC];omega
theorem wT (L:List Rn) (t j:Nat) (ht:t < L.length) (hj:j < 2):(rcs L)[t * 2+j]? = (RC (L.getD t rn0)).toList[j]?:=by
 induction L generalizing t with
 | nil=>simp at ht
 | cons a L ih =>
  have e:rcs (a :: L)=(RC a).toList++rcs L:=rfl
  cases t with
  | zero=>rw [e,List.getElem?_append_left (by simp [RC];omega)];simp [List.getD]
  | succ t =>
   rw [e,List.getElem?_append_right (by simp [RC];omega)];have h:=ih t (by simpa using ht)
   have e4:(t+1) * 2+j - (RC a).toList.length=t * 2+j:=by simp [RC];omega
   rw [e4,h];simp [List.getD]
theorem zbW (L:List Rn):∀ u∈rcs L,u.oneCell'=true:=by
 intro u hu;obtain ⟨l,hl,hv⟩:=List.mem_flatten.1 hu;obtain ⟨e,_,rfl⟩:=List.mem_map.1 hl;exact jX e u hv
theorem zgi (w:World) (L:List Rn) (C:Array Value) (hC:C=(rcs L).toArray) (T:TypeId) (n:Nat) (hn:L.length=n) (hm:n <= 8796093022207) :
  aX (w.alloc (.cells C T)) (some ⟨w.heap.size,0,none⟩) n n L:=by
 subst hC hn
 have cell:∀ t j,t < L.length -> j < 2 -> (w.alloc (.cells (rcs L).toArray T)).cell? ⟨w.heap.size,t * 2+j,none⟩=(RC (L.getD t rn0)).toList[j]?:=by
  intro t j ht hj;rw [World.cell?_alloc_new,List.getElem?_toArray,wT L t j ht hj]
 refine ⟨rfl,fun h=>(by cases h),fun ad h t ht=>?_,Nat.le_refl _,by unfold maxLen;omega,hm⟩;obtain rfl:=Option.some.inj h;refine ⟨?_,?_⟩
 ·rw [Addr.add_lit,Nat.zero_add];exact cell t 0 ht (by omega)
 ·rw [Addr.add_lit,Addr.add_lit,Nat.zero_add];exact cell t 1 ht (by omega)
structure dI (B0 B:Nat) (w w':World) (ao:Option Addr) (cap:Nat) (acc:List Rn):Prop where
 own:w'.ownsRow B 182 2 (.slice ao acc.length cap) acc.length (rcs acc)
 below:Below B0 w w'
 hB:B <= w'.heap.size
 hB0:B0 <= B
theorem dI.nil {B0 B:Nat} {w w':World} (hb:Below B0 w w') (hB:B <= w'.heap.size) (h0:B0 <= B):dI B0 B w w' none 0 []:=
 ⟨World.ownsRow_nil _ _ _ _,hb,hB,h0⟩
theorem dI.append {B0 B:Nat} {w w':World} {ao:Option Addr} {cap:Nat} {acc:List Rn} (O:dI B0 B w w' ao cap acc) (e:Rn) (C:Array Value) (hC:C=RC e) (cF:acc.length < 8796093022207)
  {ops:Array Oper} {rest:List Oper} {o:Oper} {a:Act} {Q:Exit -> Act -> World -> Prop} (hgd:o.guard=none) (s x:Operand) (ho:o.op = .call { callee:=.builtin .append,args:=#[s,x],argTypes:=#[134,134] })
  (n:Nat) (hn:acc.length=n) (hs:a.eval s = .slice ao n cap) (hx:a.eval x = .slice (some ⟨w'.heap.size,0,none⟩) 1 1)
  (hK:∀ (g cap2:Nat) (w2:World),dI B0 B w w2 (some ⟨g,0,none⟩) cap2 (acc++[e]) -> wpList Tryz.prog ops Q rest (a.put o.dst (.slice (some ⟨g,0,none⟩) (n+1) cap2)) w2) :
  wpList Tryz.prog ops Q (o :: rest) a (w'.alloc (.cells C 182)):=by
 subst hn hC;obtain ⟨i0,hi,dg,dn,ee⟩:=info_parts rE;have hB:=O.hB;have hB0:=O.hB0;refine wpList_append_own _ hgd s x 134 ho B 182 i0 (.agg #[.int .i64 0,.int .i64 0]) 2 16 Tryz.underlying134 hi dg dn ee rfl (by decide) _ acc.length (rcs acc) hs (O.own.alloc _) ⟨w'.heap.size,0,none⟩ 1 1 (RC e).toList hx (by simp [RC]) ?_ ?_ (by unfold maxLen;omega) (by omega) (by simp;omega) ?_
 ·intro j u hj;rw [Addr.add_lit,Nat.zero_add,World.cell?_alloc_new];simpa using hj
 ·intro u hu;exact jX e u hu
 ·intro v' w2 aM az _;rcases aM.2 with ⟨h0,fh⟩ | ⟨g,cap2,cur,hv,r⟩
  ·omega
  ·subst hv;have dx:∀ k,(Value.slice ao acc.length cap).ownBlock=some k -> B <= k:=fun k hk=>(O.own.lt k hk).1;have dP:=az.size;rw [World.size_alloc] at dP;refine hK g cap2 w2 ⟨?_,(O.below.alloc (by omega) _).grown az (by simp;omega) (fun k hk=>by have:=dx k hk;omega),by omega,hB0⟩;rw [List.length_append,xr,ki];exact aM
theorem dI.later {B0 B:Nat} {w w' w2:World} {ao:Option Addr} {cap:Nat} {acc:List Rn} (O:dI B0 B w w' ao cap acc) (hb:Below w'.heap.size w' w2):dI B0 B w w2 ao cap acc:=by
 refine ⟨⟨O.own.1,?_⟩,O.below.trans (hb.mono (Nat.le_trans O.hB0 O.hB)),Nat.le_trans O.hB hb.size,O.hB0⟩;rcases O.own.2 with h | ⟨g,cap2,cur,hv,dN,dy,r⟩
 ·exact Or.inl h
 ·exact Or.inr ⟨g,cap2,cur,hv,dN,(hb.block g (Array.getElem?_eq_some_iff.1 dy).1).trans dy,r⟩
theorem dI.src {B0 B:Nat} {w w':World} {ao:Option Addr} {cap:Nat} {acc:List Rn} (O:dI B0 B w w' ao cap acc) (hl:acc.length <= 8796093022207):aX w' ao acc.length cap acc/\∀ ad,ao=some ad -> B <= ad.block:=by
 rcases O.own.2 with ⟨h0,fh⟩ | ⟨g,cap2,cur,hv,dN,dy,hnc,eV,hcsz,htake⟩
 ·simp only [Value.slice.injEq] at h0;obtain ⟨rfl,e0,rfl⟩:=h0;exact ⟨⟨rfl,fun _=>⟨fh,rfl⟩,(fun ad h=>by cases h),by omega,Nat.zero_le _,hl⟩,fun ad h=>(by cases h)⟩
 ·simp only [Value.slice.injEq,true_and] at hv;obtain ⟨rfl,rfl⟩:=hv
  have cell:∀ t j,t < acc.length -> j < 2 -> w'.cell? ⟨g,t * 2+j,none⟩=(RC (acc.getD t rn0)).toList[j]?:=fun t j ht hj=>by
   rw [O.own.cellAt (t * 2+j) (by omega),wT _ t j ht hj]
  refine ⟨⟨rfl,fun h=>(by cases h),fun ad h t ht=>?_,hnc,eV,hl⟩,fun ad h=>by obtain rfl:=Option.some.inj h;exact dN⟩;obtain rfl:=Option.some.inj h;refine ⟨?_,?_⟩
  ·rw [Addr.add_lit,Nat.zero_add];exact cell t 0 ht (by omega)
  ·rw [Addr.add_lit,Addr.add_lit,Nat.zero_add];exact cell t 1 ht (by omega)
def iV (w w':World) (e:Ending) (P:List Rn -> Prop):Prop:=∃ ao n c L,e = .returned (.slice ao n c)/\aX w' ao n c L/\Below w.heap.size w w'/\P L
end Go.Proofs.YtjffpimfngdggaaGreat
namespace Go.Proofs.YtjffpimfngdggaaGreat.V
section
open Go.RowKit


def Src (w:World) (ao:Option Addr) (m c:Nat) (Z:List Int):Prop:=
 Z.length=m/\(ao=none -> m=0/\c=0)/\∀ ad,ao=some ad -> ∀ t,t < m -> w.cell? (ad.add t)=some (.int .i64 (Z.getD t 0))
theorem Src.below {w w':World} {ao:Option Addr} {m c:Nat} {Z:List Int} (h:Src w ao m c Z) (hb:Below w.heap.size w w'):Src w' ao m c Z:=
 ⟨h.1,h.2.1,fun ad ha t ht=>(hb.cell (World.block_lt_of_cell? w _ (h.2.2 ad ha t ht))).trans (h.2.2 ad ha t ht)⟩

def isR (r:Int):Bool:=decide (0 <= r) && decide (r < 16)
def eI (z:Int):Int:=if z < 0 then 0 else if 1000000000 < z then 1000000000 else z
def at' (Z:List Int) (r:Nat):Int:=if r < 16 then eI (Z.getD r 0) else 0
def atI (Z:List Int) (r:Int):Int:=if isR r=true then at' Z r.toNat else 0

theorem qw (r:Int) (w:World):Calls Tryz.prog 161 #[.int .i64 r] w fun e w'=>e = .returned (.bool (isR r))/\w'=w:=by
 go_enter Tryz.func161,Tryz.ntmps161;by_cases h0:0 <= r
 ·have HR:Hid (isR r=decide (r < 16)):=by show _=_;unfold isR;rw [decide_eq_true h0,Bool.true_and]
  go_wp2;go_ret;exact ⟨zu HR.out.symm,rfl⟩
 ·have HR:Hid (isR r=false):=by show _=_;unfold isR;rw [decide_eq_false h0,Bool.false_and]
  go_wp2;go_ret;exact ⟨zu HR.out.symm,rfl⟩

theorem xd (ao:Option Addr) (n cap:Nat) (Z:List Int) (r:Int) (w:World) (hS:Src w ao n cap Z) :
  Calls Tryz.prog 109 #[.slice ao n cap,.int .i64 r] w fun e w'=>e = .returned (.int .i64 (atI Z r))/\w'=w:=by
 obtain ⟨x,Hx⟩:∃ x,Hid (isR r=x):=⟨_,rfl⟩
 cases x with
 | false =>
  have HA:Hid (atI Z r=0):=by show _=_;unfold atI;rw [Hx.out];rfl
  go_enter Tryz.func109,Tryz.ntmps109;go_wp2_with (go_at_call 161;refine (qw r _).mono ?_;rintro e w' ⟨rfl,rfl⟩;rw [Hx.out]);go_ret;exact ⟨zH HA.out.symm,rfl⟩
 | true =>
  have hr:0 <= r/\r < 16:=by have:=Hx.out;unfold isR at this;simpa using this
  have HA:Hid (atI Z r=eI (Z.getD r.toNat 0)):=by show _=_;unfold atI at';rw [if_pos Hx.out,if_pos (by omega)]
  obtain ⟨k,rfl⟩:∃ k:Nat,r=k:=⟨r.toNat,by omega⟩;rw [Int.toNat_natCast] at HA;by_cases ak:k < n
  ·cases ao with
   | none=>have:=hS.2.1 rfl;omega
   | some ad =>
    have fV:=hS.2.2 ad rfl k ak;obtain ⟨z,hz⟩:∃ z,Z.getD k 0=z:=⟨_,rfl⟩;rw [hz] at fV HA;clear hz hS;by_cases h1:z < 0
    ·have HC:Hid (atI Z k=0):=by show _=_;rw [HA.out];unfold eI;rw [if_pos h1]
     go_enter Tryz.func109,Tryz.ntmps109;go_wp2_with (go_at_call 161;refine (qw k _).mono ?_;rintro e w' ⟨rfl,rfl⟩;rw [Hx.out]);go_ret;exact ⟨zH HC.out.symm,rfl⟩
    ·by_cases h2:1000000000 < z
     ·have HC:Hid (atI Z k=1000000000):=by show _=_;rw [HA.out];unfold eI;rw [if_neg h1,if_pos h2]
      go_enter Tryz.func109,Tryz.ntmps109;go_wp2_with (go_at_call 161;refine (qw k _).mono ?_;rintro e w' ⟨rfl,rfl⟩;rw [Hx.out]);go_ret;exact ⟨zH HC.out.symm,rfl⟩
     ·have HC:Hid (atI Z k=z):=by show _=_;rw [HA.out];unfold eI;rw [if_neg h1,if_neg h2]
      go_enter Tryz.func109,Tryz.ntmps109;go_wp2_with (go_at_call 161;refine (qw k _).mono ?_;rintro e w' ⟨rfl,rfl⟩;rw [Hx.out]);go_ret;exact ⟨zH HC.out.symm,rfl⟩
  ·have HC:Hid (atI Z k=0):=by
    show _=_;rw [HA.out,List.getD,List.getElem?_eq_none (by have:=hS.1;omega)];rfl
   go_enter Tryz.func109,Tryz.ntmps109;go_wp2_with (go_at_call 161;refine (qw k _).mono ?_;rintro e w' ⟨rfl,rfl⟩;rw [Hx.out]);go_ret;exact ⟨zH HC.out.symm,rfl⟩


def VC (f:Nat -> Int):Array Value:=((List.range 16).map fun r=>Value.int .i64 (f r)).toArray
abbrev VA (f:Nat -> Int):Value:=.agg (VC f)
theorem ziA (f:Nat -> Int):(VC f).size=16:=by simp [VC]
theorem zji (f:Nat -> Int) (t:Nat) (h:t < 16):(VC f)[t]? = some (.int .i64 (f t)):=by simp [VC,h]
theorem zhi {f g:Nat -> Int} (h:∀ r,r < 16 -> f r=g r):VC f=VC g:=by
 unfold VC;congr 1;apply List.map_congr_left;intro r hr;rw [h r (by simpa using hr)]
theorem zjh (f:Nat -> Int):∀ v∈(VC f).toList,v.oneCell'=true:=by
 intro v hv;simp only [VC,List.mem_map] at hv;obtain ⟨r,_,rfl⟩:=hv;rfl
theorem zc4 (f:Nat -> Int):(VA f).cells=VC f:=by
 simp [Value.cells]
def Arr (w:World) (g:Nat) (T:TypeId) (f:Nat -> Int):Prop:=w.heap[g]? = some (.cells (VC f) T (0,0))
def mh (f:Nat -> Int) (k:Nat) (z:Int):Nat -> Int:=fun r=>if r=k then z else f r

section
variable {w w' : World} {g : Nat} {T : TypeId} {f : Nat -> Int}
theorem Arr.lt (h:Arr w g T f):g < w.heap.size:=(Array.getElem?_eq_some_iff.1 h).1
theorem Arr.cell (h:Arr w g T f) (t:Nat) (ht:t < 16):w.cell? ⟨g,t,none⟩=some (.int .i64 (f t)):=by
 unfold Arr at h;simp [World.cell?,h,zji f t ht]
theorem Arr.frozen (h:Arr w g T f) (t:Nat):w.frozen? ⟨g,t,none⟩=false:=by unfold Arr at h;simp [World.frozen?,h]
theorem zjg (f:Nat -> Int) (t:Nat) (z:Int):(VC f).setIfInBounds t (.int .i64 z)=VC (mh f t z):=by
 apply Array.ext
 ·simp [VC]
 ·intro i h1 h2;simp [VC] at h2;by_cases h:t=i
  ·subst h;simp [VC,mh]
  ·have:¬ i=t:=fun e=>h e.symm;simp [VC,mh,h,this]
theorem Arr.set (h:Arr w g T f) (t:Nat) (z:Int):Arr (w.setCell ⟨g,t,none⟩ (.int .i64 z)) g T (mh f t z):=by
 unfold Arr at h ⊢;simp [World.setCell,h,Array.getElem?_modify,<- zjg]
theorem Arr.congr {f':Nat -> Int} (h:Arr w g T f) (e:∀ r,r < 16 -> f r=f' r):Arr w g T f':=by
 unfold Arr at h ⊢;rw [<- zhi e];exact h
theorem Arr.setOther (h:Arr w g T f) (a:Addr) (v:Value) (ch:a.block≠g):Arr (w.setCell a v) g T f:=by
 unfold Arr at h ⊢;simp [World.setCell,h,Array.getElem?_modify,ch]
theorem Arr.below (h:Arr w g T f) (hb:Below w.heap.size w w'):Arr w' g T f:=(hb.block g h.lt).trans h
theorem Arr.alloc (h:Arr w g T f) (o:Obj):Arr (w.alloc o) g T f:=(Below.heap_alloc w o g h.lt).trans h
theorem zaH (w:World) (T:TypeId) (f:Nat -> Int):Arr (w.alloc (.cells (VC f) T)) w.heap.size T f:=by unfold Arr;rw [heap_alloc_new]
theorem zhg (w:World) (o:Obj) (T:TypeId) (f:Nat -> Int):Arr ((w.alloc o).alloc (.cells (VC f) T)) (w.heap.size+1) T f:=by
 have:=zaH (w.alloc o) T f;rwa [World.size_alloc] at this
theorem vV:(#[.int .i64 0,.int .i64 0,.int .i64 0,.int .i64 0,.int .i64 0,.int .i64 0,.int .i64 0,.int .i64 0,.int .i64 0,.int .i64 0,.int .i64 0,.int .i64 0,.int .i64 0,.int .i64 0,.int .i64 0,.int .i64 0]:Array Value)=VC (fun _=>0):=rfl
end

def BN (v:Value):Sem Value:=Instr.loadAt 218 v
theorem zeM (v:Value):Instr.loadAt 218 v=BN v:=rfl
def BE (p v:Value):Sem Unit:=Instr.storeAt 218 p v
theorem zd7 (p v:Value):Instr.storeAt 218 p v=BE p v:=rfl
theorem lU:(Tryz.prog.info? 218).map (·.size)=some 16:=by kernel_rfl
theorem zcx {w:World} {g:Nat} {T:TypeId} {f:Nat -> Int} (A:Arr w g T f):(loadVar 218 ⟨g,0,none⟩).run Tryz.prog w = .ok (VA f) w:=by
 have hl:=run_loadCells_list (P:=Tryz.prog) (w:=w) ⟨g,0,none⟩ (VC f).toList (fun j v hv=>by
  rw [Addr.add_lit,Nat.zero_add]
  have hj:j < 16:=by have:=(List.getElem?_eq_some_iff.1 hv).1;simpa [VC] using this
  rw [A.cell j hj];have:=zji f j hj;simp only [Array.getElem?_toList] at hv
  rw [this] at hv;exact hv)
 cases hq:Tryz.prog.info? 218 with
 | none=>have:=lU;simp [hq] at this
 | some x =>
  have hs:x.size=16:=by have:=lU;simpa [hq] using this
  have dR:(isAgg 218).run Tryz.prog w = .ok true w:=by
   unfold isAgg;rw [Sem.run_bind,run_underlying Tryz.underlying218 w];rfl
  have e:(VC f).toList.length=16:=by simp [VC]
  rw [e] at hl;simp [loadVar,Sem.run_bind,dR,sizeOf,typeInfo,hq,hs,hl,VA]
theorem zfX {w:World} {g:Nat} {T:TypeId} {f:Nat -> Int} (A:Arr w g T f):(BN (.pointer (some ⟨g,0,none⟩))).run Tryz.prog w = .ok (VA f) w:=by
 unfold BN;simp only [Instr.loadAt,Instr.sureAddr,Sem.run_bind,Sem.run_pure,Result.andThen];exact zcx A
theorem zfU {w:World} {g:Nat} {T:TypeId} {f f':Nat -> Int} (A:Arr w g T f) :
  (BE (.pointer (some ⟨g,0,none⟩)) (VA f')).run Tryz.prog w = .ok () (w.setRow g (VC f')):=by
 unfold BE;have h:=run_storeCells_from (P:=Tryz.prog) g T (VC f').toList 0 (VC f) w A (by simp [VC]) (zjh f')
 cases hq:Tryz.prog.info? 218 with
 | none=>have:=lU;simp [hq] at this
 | some x =>
  have hs:x.size=16:=by have:=lU;simpa [hq] using this
  simp only [Instr.storeAt,Instr.sureAddr,Sem.run_bind,Sem.run_pure,Result.andThen,storeVar,sizeOf,typeInfo,zc4,ziA];simp at h;simp [h,hq,hs]
theorem Arr.setRow {w:World} {g:Nat} {T:TypeId} {f f':Nat -> Int} (A:Arr w g T f):Arr (w.setRow g (VC f')) g T f':=setRow_heap w g _ _ _ _ A
theorem zh {w w':World} {n g:Nat} {cs:Array Value} (h:Below n w w') (hg:n <= g):Below n w (w'.setRow g cs):=
 h.trans ⟨rfl,rfl,rfl,by simp [World.setRow],fun k hk=>setRow_other _ _ _ _ (by omega)⟩
theorem qg {w w':World} {n:Nat} {a:Addr} {v:Value} (h:Below n w w') (hg:n <= a.block):Below n w (w'.setCell a v):=
 h.trans ⟨rfl,rfl,rfl,by simp [World.setCell],fun k hk=>by simp [World.setCell,Array.getElem?_modify,show ¬ a.block=k by omega]⟩
theorem EL {fn:Func} {p:Tmp} {w:World} {g:Nat} {T:TypeId} {f:Nat -> Int} (h:fn.results=#[.cell p 218]) {tmps:Array Value} (hp:tmps.getD p undef = .pointer (some ⟨g,0,none⟩)) (A:Arr w g T f) :
  (results fn tmps).run Tryz.prog w = .ok (VA f) w:=by
 have hl:=zcx A;simp only [results,h];rw [Array.getD_eq_getD_getElem?] at hp;simp [hp,asAddr,hl]
attribute [local go_sem ↓] zeM zd7
theorem zeI (ao:Option Addr) (n cap:Nat) (Z:List Int) (w:World) (hS:Src w ao n cap Z) :
  Calls Tryz.prog 190 #[.slice ao n cap] w fun e w'=>e = .returned (VA (at' Z))/\Below w.heap.size w w':=by
 have HS:=hide hS;clear hS;go_enter Tryz.func190,Tryz.ntmps190;go_wp2;go_loopw [5] (fun i wr=>∃ k:Nat,k <= 16/\i = .int .i64 k/\Hid (Arr wr w.heap.size 218 fun _=>0)/\Hid (Arr wr (w.heap.size+1) 218 fun r=>if r < k then at' Z r else 0)/\Hid (Below w.heap.size w wr)) (fun i _=>16 - (intOf i).toNat)
 case atStart =>
  rw [vV];exact ⟨0,Nat.zero_le _,rfl,(zaH w 218 _).alloc _,(zhg w _ 218 _).congr (fun r _=>by simp),((Below.refl _ _).alloc (Nat.le_refl _) _).alloc (by simp) _⟩
 case round =>
  obtain ⟨k,hk,rfl,A0,A1,HB⟩:=hrel;by_cases ak:k < 16
  ·have HC:=hide (xd ao n cap Z k wr (HS.out.below HB.out))
   have HI:Hid (atI Z k=at' Z k):=by show _=_;unfold atI;rw [if_pos (by simp [isR];omega),Int.toNat_natCast]
   have c1:=A1.out.cell k ak;have z1:=A1.out.frozen k;go_wp2_with (go_at_call 109;refine HC.out.mono ?_;rintro e w' ⟨rfl,rfl⟩);go_roundw
   case rel =>
    refine ⟨k+1,by omega,by go_num,A0.out.setOther _ _ (by simp),(A1.out.set k _).congr (fun r _=>?_),qg HB.out (by simp)⟩;rw [HI.out];unfold mh;by_cases e:r=k
    ·subst e;simp
    ·by_cases h:r < k
     ·simp [e,h];omega
     ·simp [e,h];omega
   case measure=>simp [intOf];omega
  ·obtain rfl:k=16:=by omega
   have A1':=A1.out.congr (f':=at' Z) (fun r hr=>by simp [hr]);have l1:=zfX A1';have s1:=zfU (f':=at' Z) A0.out;go_wp2;refine bodyPost_ret (v:=VA (at' Z)) ?_ rfl ⟨rfl,zh HB.out (Nat.le_refl _)⟩;exact EL Tryz.results190 rfl (A0.out.setRow)
end
section
open Go.RowKit
attribute [local go_sem] vV
def lY (Z:List Int) (r m:Int):Bool:=decide (1 <= m) && decide (m <= atI Z r)
theorem zgY (z:Int):0 <= eI z/\eI z <= 1000000000:=by unfold eI;split;omega;split <;> omega
theorem zda (Z:List Int) (r:Nat):0 <= at' Z r/\at' Z r <= 1000000000:=by
 unfold at';split
 ·exact zgY _
 ·omega
theorem zfu (Z:List Int) (r:Int):0 <= atI Z r/\atI Z r <= 1000000000:=by
 unfold atI;split
 ·exact zda _ _
 ·omega

theorem zhf (ao:Option Addr) (n cap:Nat) (Z:List Int) (r:Int) (w:World) (hS:Src w ao n cap Z) :
  Calls Tryz.prog 109 #[.slice ao n cap,.int .i64 r] w fun e w'=>e = .returned (.int .i64 (atI Z r))/\Below w.heap.size w w':=by
 refine (xd ao n cap Z r w hS).mono ?_;rintro e w' ⟨rfl,rfl⟩;exact ⟨rfl,Below.refl _ _⟩

theorem zh8 (ao:Option Addr) (n cap:Nat) (Z:List Int) (r m:Int) (w:World) (hS:Src w ao n cap Z) :
  Calls Tryz.prog 62 #[.slice ao n cap,.agg #[.int .i64 r,.int .i64 m]] w fun e w'=>e = .returned (.bool (lY Z r m))/\Below w.heap.size w w':=by
 have HB:Hid (Below w.heap.size w (w.alloc (.cells #[.int .i64 r,.int .i64 m] 48))):=(Below.refl _ _).alloc (Nat.le_refl _) _;have HS:=hide (hS.below HB.out);clear hS;obtain ⟨w0,mU⟩:∃ w0,Hid (w.alloc (.cells #[.int .i64 r,.int .i64 m] 48)=w0):=⟨_,rfl⟩;have k0:=cell_regrown (show w0.cell? ⟨w.heap.size,0,none⟩=some (.int .i64 r) by rw [<- mU.out];simp);have k1:=cell_regrown (show w0.cell? ⟨w.heap.size,1,none⟩=some (.int .i64 m) by rw [<- mU.out];simp);rw [mU.out] at HB HS;obtain ⟨a,HA⟩:∃ a,Hid (atI Z r=a):=⟨_,rfl⟩
 have cA:∀ d os,Calls Tryz.prog 109 #[.slice ao n cap,.int .i64 r] (Sort.grow (redrawn w0 d) os) fun e w''=>e = .returned (.int .i64 a)/\∃ p:Regrown,w''=Sort.grow (redrawn w0 p.d) p.os:=fun d os=>by
  have:=zhf ao n cap Z r (Sort.grow (redrawn w0 d) os) (HS.out.below (below_regrown w0 d os));rw [HA.out] at this;exact Calls.regrown_of this
 by_cases h1:1 <= m
 ·have HR:Hid (lY Z r m=decide (m <= a)):=by show _=_;unfold lY;rw [decide_eq_true h1,Bool.true_and,HA.out]
  go_enter Tryz.func62,Tryz.ntmps62;go_wp2_with fail;rw [mU.out];refine wp_region_quiet_below (by kernel_rfl) (by kernel_rfl) ?_
  repeat (quiet_step ((go_at_call 109;exact cA _ _)))
  refine wpQuiet_nil ?_;intro _ hw';obtain ⟨⟨dq,osq⟩,hw''⟩:=hw';subst hw'';have eQ:Hid (Below w.heap.size w (Sort.grow (redrawn w0 dq) osq)):=HB.out.trans ((below_regrown w0 dq osq).mono HB.out.size);go_wp2;go_ret;exact ⟨zu HR.out.symm,eQ.out⟩
 ·have HR:Hid (lY Z r m=false):=by show _=_;unfold lY;rw [decide_eq_false h1,Bool.false_and]
  have mX:=decide_eq_false h1;go_enter Tryz.func62,Tryz.ntmps62;go_wp2_with fail;rw [mU.out];refine wp_region_quiet_below (by kernel_rfl) (by kernel_rfl) ?_
  repeat (quiet_step (fail))
  refine wpQuiet_nil ?_;intro _ hw';obtain ⟨⟨dq,osq⟩,hw''⟩:=hw';subst hw'';have eQ:Hid (Below w.heap.size w (Sort.grow (redrawn w0 dq) osq)):=HB.out.trans ((below_regrown w0 dq osq).mono HB.out.size);go_wp2;go_ret;exact ⟨zu HR.out.symm,eQ.out⟩

attribute [local go_sem ↓] zeM zd7
attribute [local go_sem] vV zc4
def dD (f:Nat -> Int):Nat -> Nat
 | 0=>0
 | k+1=>if f k=0 then dD f k else k+1
def top (f:Nat -> Int):Nat:=dD f 16
def aL (f:Nat -> Int):List Int:=(List.range (top f)).map f
theorem zdZ (f:Nat -> Int) (k:Nat):dD f k <= k:=by
 induction k with
 | zero=>simp [dD]
 | succ k ih=>unfold dD;split <;> omega
theorem vI (f:Nat -> Int):top f <= 16:=zdZ f 16
theorem zR (f:Nat -> Int):(aL f).length=top f:=by simp [aL]
def Lc (w w':World) (e:Ending) (Z:List Int):Prop:=∃ ao n c,e = .returned (.slice ao n c)/\Src w' ao n c Z/\Below w.heap.size w w'

def rW (w w':World) (e:Ending) (Z:List Int):Prop:=∃ ao n c,e = .returned (.slice ao n c)/\Src w' ao n c Z/\Below w.heap.size w w'/\∀ ad,ao=some ad -> w.heap.size <= ad.block
theorem EM:(Tryz.prog.info? 3).map (fun i=>(i.zero,i.size,i.bytes))=some (some (.int .i64 0),1,8):=by kernel_rfl
theorem o5 (n:Nat):madeCells #[Value.int .i64 0] n=((List.replicate n (0:Int)).map (Value.int .i64)).toArray:=by
 apply Array.ext
 ·simp [madeCells]
 ·intro i h1 h2;simp [madeCells,Nat.mod_one]
theorem ziT (w:World) (n:Nat) (hn:n <= 16):(Instr.makeSlice 23 (.int .i64 (n:Int)) (.int .i64 (n:Int))).run Tryz.prog w = .ok (.slice (some ⟨w.heap.size,0,none⟩) n n) (w.alloc (.cells ((List.replicate n (0:Int)).map (Value.int .i64)).toArray 3)):=by
 obtain ⟨i0,hi,dg,dn,ee⟩:=info_parts EM;have h:=run_make (P:=Tryz.prog) w 23 3 i0 (.int .i64 0) Tryz.underlying23 hi dg .i64 .i64 (n:Int) (n:Int) (by omega) (by omega) (by rw [ee];omega) (by omega);rw [dn,Int.toNat_natCast,Nat.mul_one] at h;have fC:(Value.int .i64 0).cells=#[Value.int .i64 0]:=rfl;rw [fC,o5] at h;exact h

def o3 (a b:Value):Sem Value:=Instr.makeSlice 23 a b
theorem ye (a b:Value):Instr.makeSlice 23 a b=o3 a b:=rfl
def EP (a b:Value):Sem Value:=Builtin.copy_ #[23,23] 3 #[a,b]
theorem zif (a b:Value):Builtin.copy_ #[23,23] 3 #[a,b]=EP a b:=rfl
attribute [local go_sem ↓] ye zif
theorem EG:(Tryz.prog.info? 3).map (·.size)=some 1:=by kernel_rfl
theorem yf (f:Nat -> Int) (w wr:World) (k:Nat) (K:Int) (hK:K=(k:Int)) (hk:k <= 16) (hT:k=top f) (A:Arr wr w.heap.size 218 f) (hz:wr.heap.size=w.heap.size+1) (hb:Below w.heap.size w wr) :
  ∃ w1 w2:World,(o3 (.int .i64 K) (.int .i64 K)).run Tryz.prog wr = .ok (.slice (some ⟨w.heap.size+1,0,none⟩) k k) w1 /\
   (EP (.slice (some ⟨w.heap.size+1,0,none⟩) k k) (.slice (some ⟨w.heap.size,0,none⟩) k 16)).run Tryz.prog w1 = .ok (goInt K) w2 /\
   Src w2 (some ⟨w.heap.size+1,0,none⟩) k k (aL f)/\Below w.heap.size w w2:=by
 subst hK;have h1:=ziT wr k hk;rw [hz] at h1;have A1:=A.alloc (.cells ((List.replicate k (0:Int)).map (Value.int .i64)).toArray 3)
 have hg:(wr.alloc (.cells ((List.replicate k (0:Int)).map (Value.int .i64)).toArray 3)).heap[w.heap.size+1]? = some (.cells ((List.replicate k (0:Int)).map (Value.int .i64)).toArray 3 (0,0)):=by
  rw [<- hz];exact heap_alloc_new wr _
 have hl:((aL f).map (Value.int .i64)).length=k:=by rw [List.length_map,zR,hT]
 have h2:=run_copy_row (P:=Tryz.prog) (wr.alloc (.cells ((List.replicate k (0:Int)).map (Value.int .i64)).toArray 3)) 23 23 3 3 (w.heap.size+1) 0 k k ⟨w.heap.size,0,none⟩ k 16 _ 3 ((aL f).map (Value.int .i64)) Tryz.underlying23 EG hg
  (by rw [hl];simp) (fun j v hv=>by
   rw [Addr.add_lit,Nat.zero_add];simp only [List.getElem?_map,Option.map_eq_some_iff] at hv;obtain ⟨z,dn,rfl⟩:=hv
   have hj:j < top f:=by rw [<- zR];exact (List.getElem?_eq_some_iff.1 dn).1
   have ui:=vI f;rw [A1.cell j (by omega)];simp [aL,hj] at dn
   rw [dn]) (by rw [hl];simp) (fun v hv=>by simp only [List.mem_map] at hv;obtain ⟨z,_,rfl⟩:=hv;rfl)
 rw [hl] at h2;refine ⟨_,_,h1,h2,?_,?_⟩
 ·refine ⟨by rw [zR,hT],fun h=>(by cases h),fun ad h t ht=>?_⟩;obtain rfl:=Option.some.inj h;simp only [Addr.add_lit,Nat.zero_add];rw [cell_setRow_same _ _ t _ _ _ _ hg]
  have JL:(aL f).length=k:=by rw [zR,hT]
  have tf:t < (aL f).length:=by omega
  simp [List.getD];rw [List.getElem?_eq_getElem tf];rfl
 ·exact zh (hb.alloc (by omega) _) (by omega)

theorem zgm (f:Nat -> Int) (w:World):Calls Tryz.prog 191 #[VA f] w fun e w'=>rW w w' e (aL f):=by
 go_enter Tryz.func191,Tryz.ntmps191;go_wp2;go_loopw [3] (fun i wr=>∃ k:Nat,k <= 16/\i = .int .i64 k/\Hid (dD f k=top f)/\Hid (Arr wr w.heap.size 218 f)/\Hid (wr.heap.size=w.heap.size+1)/\Hid (Below w.heap.size w wr)) (fun i _=>(intOf i).toNat)
 case atStart=>exact ⟨16,Nat.le_refl _,rfl,rfl,zaH w 218 f,by show _=_;simp,(Below.refl _ _).alloc (Nat.le_refl _) _⟩
 case round =>
  obtain ⟨k,hk,rfl,HT,A,HZ,HB⟩:=hrel
  cases k with
  | zero =>
   have ht:0=top f:=by rw [<- HT.out];rfl
   obtain ⟨w1,w2,m1,m2,S,b2⟩:=yf f w wr 0 0 rfl hk ht A.out HZ.out HB.out;have S':=hide S;have b2':=hide b2;clear S b2 ht;go_wp2;go_ret;exact ⟨_,_,_,rfl,S'.out,b2'.out,fun ad h=>by obtain rfl:=Option.some.inj h;simp⟩
  | succ k =>
   have c1:=A.out.cell k (by omega);obtain ⟨z,Hz⟩:∃ z,Hid (f k=z):=⟨_,rfl⟩;rw [Hz.out] at c1;by_cases h0:z=0
   ·subst h0
    have HN:Hid (dD f k=top f):=by show _=_;rw [<- HT.out];conv=>rhs;unfold dD;rw [if_pos Hz.out]
    go_wp2;go_roundw
    case rel=>exact ⟨k,by omega,by go_num,HN,A,HZ,HB⟩
    case measure=>simp [intOf]
   ·have ht:k+1=top f:=by rw [<- HT.out];unfold dD;rw [Hz.out,if_neg h0]
    have mF:(z == 0)=false:=by simpa using h0
    obtain ⟨w1,w2,m1,m2,S,b2⟩:=yf f w wr (k+1) ((k:Int)+1) (by omega) hk ht A.out HZ.out HB.out;have S':=hide S;have b2':=hide b2;clear S b2 ht h0
    have q1:(k:Int)+1 <= 16:=by omega
    have q0:0 <= (k:Int)+1:=by omega
    go_wp2;go_ret;exact ⟨_,_,_,rfl,S'.out,b2'.out,fun ad h=>by obtain rfl:=Option.some.inj h;simp⟩
theorem zfs {a b c:World} (h1:Below a.heap.size a b) (h2:Below b.heap.size b c):Below a.heap.size a c:=h1.trans (h2.mono h1.size)

theorem wg (ao:Option Addr) (n cap:Nat) (Z:List Int) (w:World) (hS:Src w ao n cap Z) :
  Calls Tryz.prog 156 #[.slice ao n cap] w fun e w'=>rW w w' e (aL (at' Z)):=by
 have HS:=hide hS;clear hS;go_enter Tryz.func156,Tryz.ntmps156;go_wp2_with fail;refine (zeI ao n cap Z _ HS.out).mono ?_;rintro e w1 ⟨rfl,b1⟩;go_wp2_with fail;refine (zgm (at' Z) _).mono ?_;rintro e w2 ⟨ao2,n2,c2,rfl,S2,b2,f2⟩;have B:=hide (zfs b1 b2);have S:=hide S2;have F:=hide (fun ad h=>Nat.le_trans b1.size (f2 ad h));clear b1 b2 S2 f2;go_wp2_with fail;go_ret;exact ⟨_,_,_,rfl,S.out,B.out,F.out⟩
theorem Src.off {w w':World} {ao:Option Addr} {n c:Nat} {Z:List Int} (h:Src w ao n c Z) (hk:∀ ad,ao=some ad -> w'.heap[ad.block]? = w.heap[ad.block]?):Src w' ao n c Z:=
 ⟨h.1,h.2.1,fun ad ha t ht=>by rw [<- h.2.2 ad ha t ht];unfold World.cell?;rw [zs,hk ad ha]⟩
end
end Go.Proofs.YtjffpimfngdggaaGreat.V
namespace Go.Proofs.YtjffpimfngdggaaGreat
section
open Go.RowKit

theorem qF {w:World} {ao:Option Addr} {n c:Nat} {Z:List Int} (S:V.Src w ao n c Z) (k:Nat) (h:k < n):∃ ad,ao=some ad/\w.cell? (ad.add k)=some (.int .i64 (Z.getD k 0)):=by
 cases ao with
 | none=>have:=S.2.1 rfl;omega
 | some ad=>exact ⟨ad,rfl,S.2.2 ad rfl k h⟩
def ics (L:List Int):List Value:=L.map (Value.int .i64)
theorem yT (L M:List Int):ics (L++M)=ics L++ics M:=by simp [ics]
theorem vE (L:List Int):(ics L).length=L.length:=by simp [ics]
theorem zh7 (L:List Int):∀ u∈ics L,u.oneCell'=true:=by
 intro u hu;obtain ⟨z,_,rfl⟩:=List.mem_map.1 hu;rfl
theorem zhA (L:List Int) (t:Nat) (ht:t < L.length):(ics L)[t]? = some (.int .i64 (L.getD t 0)):=by
 simp [ics,ht,List.getD]
structure dz (B0 B:Nat) (w w':World) (ao:Option Addr) (cap:Nat) (acc:List Int):Prop where
 own:w'.ownsRow B 3 1 (.slice ao acc.length cap) acc.length (ics acc)
 below:Below B0 w w'
 hB:B <= w'.heap.size
 hB0:B0 <= B
theorem dz.nil {B0 B:Nat} {w w':World} (hb:Below B0 w w') (hB:B <= w'.heap.size) (h0:B0 <= B):dz B0 B w w' none 0 []:=
 ⟨World.ownsRow_nil _ _ _ _,hb,hB,h0⟩
theorem dz.later {B0 B:Nat} {w w' w2:World} {ao:Option Addr} {cap:Nat} {acc:List Int} (O:dz B0 B w w' ao cap acc) (hb:Below w'.heap.size w' w2):dz B0 B w w2 ao cap acc:=by
 refine ⟨⟨O.own.1,?_⟩,O.below.trans (hb.mono (Nat.le_trans O.hB0 O.hB)),Nat.le_trans O.hB hb.size,O.hB0⟩;rcases O.own.2 with h | ⟨g,cap2,cur,hv,dN,dy,r⟩
 ·exact Or.inl h
 ·exact Or.inr ⟨g,cap2,cur,hv,dN,(hb.block g (Array.getElem?_eq_some_iff.1 dy).1).trans dy,r⟩
theorem mG:(Tryz.prog.info? 3).map (fun i=>(i.zero,i.size,i.bytes))=some (some (.int .i64 0),1,8):=by kernel_rfl
theorem dz.append {B0 B:Nat} {w w':World} {ao:Option Addr} {cap:Nat} {acc:List Int} (O:dz B0 B w w' ao cap acc) (E:List Int) (ad:Addr) (m c:Nat) (S:V.Src w' (some ad) m c E) (cF:acc.length+m <= 17592186044415)
  {ops:Array Oper} {rest:List Oper} {o:Oper} {a:Act} {Q:Exit -> Act -> World -> Prop} (hgd:o.guard=none) (s x:Operand) (ho:o.op = .call { callee:=.builtin .append,args:=#[s,x],argTypes:=#[23,23] })
  (n:Nat) (hn:acc.length=n) (hs:a.eval s = .slice ao n cap) (hx:a.eval x = .slice (some ad) m c)
  (hK:∀ (ao2:Option Addr) (cap2:Nat) (w2:World),dz B0 B w w2 ao2 cap2 (acc++E) -> (∀ k,k < w'.heap.size -> (Value.slice ao acc.length cap).ownBlock≠some k -> w2.heap[k]? = w'.heap[k]? /\ ∀ ad2,ao2=some ad2 -> ad2.block≠k) -> w'.heap.size <= w2.heap.size -> wpList Tryz.prog ops Q rest (a.put o.dst (.slice ao2 (n+m) cap2)) w2) :
  wpList Tryz.prog ops Q (o :: rest) a w':=by
 subst hn;obtain rfl:E.length=m:=S.1;obtain ⟨i0,hi,dg,dn,ee⟩:=info_parts mG;have hB:=O.hB;have hB0:=O.hB0;refine wpList_append_own_at _ hgd s x 23 ho B 3 i0 (.int .i64 0) 1 8 Tryz.underlying23 hi dg dn ee rfl (by decide) _ acc.length (ics acc) hs O.own ad E.length c (ics E) hx (by rw [vE,Nat.mul_one]) (fun j u hj=>?_) (zh7 E) (by unfold maxLen;omega) (by omega) hB ?_
 ·have hl:j < E.length:=by rw [<- vE];exact (List.getElem?_eq_some_iff.1 hj).1
  rw [zhA E j hl] at hj;rw [S.2.2 ad rfl j hl];exact hj
 intro v' w2 aM az _ gZ
 have dx:∀ k,(Value.slice ao acc.length cap).ownBlock=some k -> B <= k:=fun k hk=>(O.own.lt k hk).1;have dP:=az.size;have mS:Below B0 w w2:=O.below.grown az (by omega) (fun k hk=>by have:=dx k hk;omega);rw [<- yT] at aM;rcases aM.2 with ⟨h0,fh⟩ | ⟨g,cap2,cur,hv,r⟩
 ·subst h0;have e1:acc=[]:=List.eq_nil_of_length_eq_zero (by omega);have e2:E=[]:=List.eq_nil_of_length_eq_zero (by omega);subst e1 e2;exact hK none 0 w2 ⟨aM,mS,by omega,hB0⟩ (fun k hk ch=>⟨az.block k hk (fun e=>ch e.symm),fun ad2 h=>by cases h⟩) dP
 ·subst hv;refine hK (some ⟨g,0,none⟩) cap2 w2 ⟨by rw [List.length_append];exact aM,mS,by omega,hB0⟩ (fun k hk ch=>⟨az.block k hk (fun e=>ch e.symm),fun ad2 h e=>?_⟩) dP;obtain rfl:=Option.some.inj h;have e':g=k:=e;rcases gZ with h | h
  ·exact ch (by rw [<- h,<- e'];rfl)
  ·simp [Value.ownBlock] at h;omega
theorem dz.appendS {B0 B:Nat} {w w':World} {ao:Option Addr} {cap:Nat} {acc:List Int} (O:dz B0 B w w' ao cap acc) (E:List Int) (xo:Option Addr) (m c:Nat) (S:V.Src w' xo m c E) (cF:acc.length+m <= 17592186044415)
  {ops:Array Oper} {rest:List Oper} {o:Oper} {a:Act} {Q:Exit -> Act -> World -> Prop} (hgd:o.guard=none) (s x:Operand) (ho:o.op = .call { callee:=.builtin .append,args:=#[s,x],argTypes:=#[23,23] })
  (n:Nat) (hn:acc.length=n) (hs:a.eval s = .slice ao n cap) (hx:a.eval x = .slice xo m c)
  (hK:∀ (ao2:Option Addr) (cap2:Nat) (w2:World),dz B0 B w w2 ao2 cap2 (acc++E) -> wpList Tryz.prog ops Q rest (a.put o.dst (.slice ao2 (n+m) cap2)) w2) :
  wpList Tryz.prog ops Q (o :: rest) a w':=by
 cases xo with
 | some ad=>exact O.append E ad m c S cF hgd s x ho n hn hs hx (fun ao2 cap2 w2 h _ _=>hK ao2 cap2 w2 h)
 | none =>
  obtain ⟨rfl,rfl⟩:=S.2.1 rfl;have e:=List.eq_nil_of_length_eq_zero S.1;subst e;subst hn;obtain ⟨i0,hi,dg,dn,ee⟩:=info_parts mG;refine wpList_append_own_none hgd s x 23 ho B 3 i0 1 Tryz.underlying23 hi _ acc.length (ics acc) hs O.own hx ?_;have:=hK ao cap w';rw [List.append_nil,Nat.add_zero] at this;exact this O
theorem dz.src {B0 B:Nat} {w w':World} {ao:Option Addr} {cap:Nat} {acc:List Int} (O:dz B0 B w w' ao cap acc):V.Src w' ao acc.length cap acc/\(∀ ad,ao=some ad -> B <= ad.block)/\acc.length <= cap/\cap <= maxLen:=by
 rcases O.own.2 with ⟨h0,fh⟩ | ⟨g,cap2,cur,hv,dN,dy,hnc,eV,hcsz,htake⟩
 ·simp only [Value.slice.injEq] at h0;obtain ⟨rfl,e0,rfl⟩:=h0;exact ⟨⟨rfl,fun _=>⟨fh,rfl⟩,fun ad h=>(by cases h)⟩,fun ad h=>(by cases h),by omega,by unfold maxLen;omega⟩
 ·simp only [Value.slice.injEq,true_and] at hv;obtain ⟨rfl,rfl⟩:=hv;refine ⟨⟨rfl,fun h=>(by cases h),fun ad h t ht=>?_⟩,fun ad h=>by obtain rfl:=Option.some.inj h;exact dN,hnc,eV⟩;obtain rfl:=Option.some.inj h;rw [Addr.add_lit,Nat.zero_add,O.own.cellAt t (by omega),zhA acc t ht]
theorem bv {w w':World} {ao:Option Addr} {n c:Nat} {Z:List Int} (h:V.Src w ao n c Z) (hk:∀ ad,ao=some ad -> w'.heap[ad.block]? = w.heap[ad.block]?):V.Src w' ao n c Z:=h.off hk
theorem dz.made (w:World) (C:Array Value) (cap:Nat) (hc:C.size=cap * 1) (hm:cap <= maxLen):dz w.heap.size w.heap.size w (w.alloc (.cells C 3)) (some ⟨w.heap.size,0,none⟩) cap []:=
 ⟨World.ownsRow_made w C cap (Nat.le_refl _) hm hc,ze w _,by simp,Nat.le_refl _⟩
theorem dz.lt {B0 B:Nat} {w w':World} {ao:Option Addr} {cap:Nat} {acc:List Int} (O:dz B0 B w w' ao cap acc) {k:Nat} (h:(Value.slice ao acc.length cap).ownBlock=some k):B <= k/\k < w'.heap.size:=O.own.lt k h
theorem eL (w:World) (x:Int) (C:Array Value) (hC:C=#[.int .i64 x]) (T:TypeId):V.Src (w.alloc (.cells C T)) (some ⟨w.heap.size,0,none⟩) 1 1 [x]:=by
 subst hC;refine ⟨rfl,fun h=>(by cases h),fun ad h t ht=>?_⟩;obtain rfl:=Option.some.inj h;rw [Addr.add_lit,Nat.zero_add,World.cell?_alloc_new]
 obtain rfl:t=0:=by omega
 rfl
theorem zfP {w:World} {ad:Addr} {n c:Nat} {Z:List Int} (h:V.Src w (some ad) n c Z) (k:Nat) (hk:k <= n):V.Src w (some ad) k c (Z.take k):=by
 refine ⟨by rw [List.length_take,h.1];omega,fun e=>(by cases e),fun a e t ht=>?_⟩;rw [h.2.2 a e t (by omega)];simp [List.getD,ht]
theorem zfQ {w:World} {ad:Addr} {n c:Nat} {Z:List Int} (h:V.Src w (some ad) n c Z) (k:Nat) (hk:k <= n) (c':Nat):V.Src w (some (ad.add k)) (n - k) c' (Z.drop k):=by
 refine ⟨by rw [List.length_drop,h.1],fun e=>(by cases e),fun a e t ht=>?_⟩;obtain rfl:=Option.some.inj e;rw [qC,h.2.2 ad rfl (k+t) (by omega)];simp [List.getD,List.getElem?_drop]
end
section

def mem (a:List Rn) (n:Int):Prop:=1 <= n/\n <= 1000000000/\∃ r,r∈a/\r.lo <= n/\n <= r.hi
def form:Int -> List Rn -> Prop
 | _,[]=>True
 | l,r :: a=>l <= r.lo/\r.lo <= r.hi/\r.hi <= 1000000000/\form (r.hi+2) a
theorem qV (n:Int):¬ mem [] n:=fun ⟨_,_,r,h,_⟩=>by cases h
theorem mem_cons (r:Rn) (a:List Rn) (n:Int):mem (r :: a) n↔(1 <= n/\n <= 1000000000/\r.lo <= n/\n <= r.hi)∨mem a n:=by
 constructor
 ·rintro ⟨h1,h2,x,hx,h3⟩;rcases List.mem_cons.1 hx with e | e
  ·subst e;exact Or.inl ⟨h1,h2,h3⟩
  ·exact Or.inr ⟨h1,h2,x,e,h3⟩
 ·rintro (⟨h1,h2,h3⟩ | ⟨h1,h2,x,hx,h3⟩)
  ·exact ⟨h1,h2,r,List.mem_cons_self ..,h3⟩
  ·exact ⟨h1,h2,x,List.mem_cons_of_mem _ hx,h3⟩
theorem mem_append (a b:List Rn) (n:Int):mem (a++b) n↔mem a n∨mem b n:=by
 constructor
 ·rintro ⟨h1,h2,x,hx,h3⟩;rcases List.mem_append.1 hx with e | e
  ·exact Or.inl ⟨h1,h2,x,e,h3⟩
  ·exact Or.inr ⟨h1,h2,x,e,h3⟩
 ·rintro (⟨h1,h2,x,hx,h3⟩ | ⟨h1,h2,x,hx,h3⟩)
  ·exact ⟨h1,h2,x,List.mem_append_left _ hx,h3⟩
  ·exact ⟨h1,h2,x,List.mem_append_right _ hx,h3⟩
theorem qu (r:Rn) (n:Int):mem [r] n↔1 <= n/\n <= 1000000000/\r.lo <= n/\n <= r.hi:=by
 rw [mem_cons];exact ⟨fun h=>h.elim id (fun h=>absurd h (qV n)),Or.inl⟩
theorem zeH {a b:List Rn} (h:∀ r,r∈a↔r∈b) (n:Int):mem a n↔mem b n:=
 ⟨fun ⟨h1,h2,x,hx,h3⟩=>⟨h1,h2,x,(h x).1 hx,h3⟩,fun ⟨h1,h2,x,hx,h3⟩=>⟨h1,h2,x,(h x).2 hx,h3⟩⟩
theorem jQ {l l':Int} (hl:l' <= l):∀ {a:List Rn},form l a -> form l' a
 | [],_=>trivial
 | _ :: _,h=>⟨Int.le_trans hl h.1,h.2⟩
theorem jj:∀ {a:List Rn} {l:Int} {n:Int},form l a -> mem a n -> l <= n
 | [],_,n,_,h=>absurd h (qV n)
 | r :: a,l,n,hf,h=>by
  rcases (mem_cons r a n).1 h with h | h
  ·have:=hf.1;omega
  ·have:=jj hf.2.2.2 h;have:=hf.1;have:=hf.2.1;omega
theorem kn:∀ {a b:List Rn} {l:Int},1 <= l -> form l a -> form l b -> (∀ n,mem a n↔mem b n) -> a=b
 | [],[],_,_,_,_,_=>rfl
 | [],s :: b,l,hl,_,hb,h=>absurd ((h s.lo).2 ((mem_cons s b s.lo).2 (Or.inl ⟨by have:=hb.1;omega,by have:=hb.2;omega,Int.le_refl _,hb.2.1⟩))) (qV _)
 | r :: a,[],l,hl,ha,_,h=>absurd ((h r.lo).1 ((mem_cons r a r.lo).2 (Or.inl ⟨by have:=ha.1;omega,by have:=ha.2;omega,Int.le_refl _,ha.2.1⟩))) (qV _)
 | r :: a,s :: b,l,hl,ha,hb,h=>by
  have a1:=ha.1;have a2:=ha.2.1;have a3:=ha.2.2.1;have a4:=ha.2.2.2;have b1:=hb.1;have b2:=hb.2.1;have b3:=hb.2.2.1;have b4:=hb.2.2.2
  have ge:∀ {x:Rn} {c:List Rn} {n:Int},form (x.hi+2) c -> x.lo <= x.hi -> mem (x :: c) n -> x.lo <= n:=fun {x c n} hf hx hm=>by
   rcases (mem_cons x c n).1 hm with e | e
   ·exact e.2.2.1
   ·have:=jj hf e;omega
  have e1:s.lo <= r.lo:=ge b4 b2 ((h r.lo).1 ((mem_cons r a r.lo).2 (Or.inl ⟨by omega,by omega,Int.le_refl _,a2⟩)));have e2:r.lo <= s.lo:=ge a4 a2 ((h s.lo).2 ((mem_cons s b s.lo).2 (Or.inl ⟨by omega,by omega,Int.le_refl _,b2⟩)))
  have e3:¬ r.hi < s.hi:=fun ak=>by
   have:=(h (r.hi+1)).2 ((mem_cons s b _).2 (Or.inl ⟨by omega,by omega,by omega,by omega⟩));rcases (mem_cons r a _).1 this with e | e
   ·omega
   ·have:=jj a4 e;omega
  have e4:¬ s.hi < r.hi:=fun ak=>by
   have:=(h (s.hi+1)).1 ((mem_cons r a _).2 (Or.inl ⟨by omega,by omega,by omega,by omega⟩));rcases (mem_cons s b _).1 this with e | e
   ·omega
   ·have:=jj b4 e;omega
  have er:r=s:=by
   obtain ⟨r1,r2⟩:=r;obtain ⟨s1,s2⟩:=s;simp at e1 e2 e3 e4;rw [show r1=s1 by omega,show r2=s2 by omega]
  subst er;rw [kn (l:=r.hi+2) (by omega) a4 b4 (fun n=>?_)];constructor
  ·intro hm;have sl:=jj a4 hm;rcases (mem_cons r b n).1 ((h n).1 ((mem_cons r a n).2 (Or.inr hm))) with e | e
   ·omega
   ·exact e
  ·intro hm;have sl:=jj b4 hm;rcases (mem_cons r a n).1 ((h n).2 ((mem_cons r b n).2 (Or.inr hm))) with e | e
   ·omega
   ·exact e
theorem zcU:∀ {a:List Rn} {l:Int},form l a -> a=[]∨2 * (a.length:Int)+l <= 1000000002
 | [],_,_=>Or.inl rfl
 | r :: a,l,h=>by
  right;have h1:=h.1;have h2:=h.2.1;have h3:=h.2.2.1;rcases zcU h.2.2.2 with e | e
  ·subst e;simp;omega
  ·simp only [List.length_cons];omega
theorem xt {a:List Rn} {l:Int} (hl:1 <= l) (h:form l a):a.length <= 500000001:=by
 rcases zcU h with e | e
 ·subst e;simp
 ·omega
def aT (a R:List Rn):Prop:=form 1 R/\∀ n,mem R n↔mem a n
theorem aT.unique {a R R':List Rn} (h:aT a R) (h':aT a R'):R=R':=kn (Int.le_refl _) h.1 h'.1 (fun n=>(h.2 n).trans (h'.2 n).symm)
theorem aT.self {a:List Rn} (h:form 1 a):aT a a:=⟨h,fun _=>Iff.rfl⟩
theorem kR:∀ {i:List Rn} {l:Int} {x r:Rn},form l (i++[x]) -> x.hi+2 <= r.lo -> r.lo <= r.hi -> r.hi <= 1000000000 -> form l (i++[x]++[r])
 | [],_,_,_,h,h1,h2,h3=>⟨h.1,h.2.1,h.2.2.1,h1,h2,h3,trivial⟩
 | _ :: _,_,_,_,h,h1,h2,h3=>⟨h.1,h.2.1,h.2.2.1,kR h.2.2.2 h1 h2 h3⟩
theorem zeX:∀ {i:List Rn} {l:Int} {x y:Rn},form l (i++[x]) -> y.lo=x.lo -> x.hi <= y.hi -> y.hi <= 1000000000 -> form l (i++[y])
 | [],_,_,_,h,h1,h2,h3=>⟨by have:=h.1;omega,by have:=h.2.1;omega,h3,trivial⟩
 | _ :: _,_,_,_,h,h1,h2,h3=>⟨h.1,h.2.1,h.2.2.1,zeX h.2.2.2 h1 h2 h3⟩
theorem kS:∀ {i:List Rn} {l:Int} {x:Rn},form l (i++[x]) -> l <= x.lo/\x.lo <= x.hi/\x.hi <= 1000000000
 | [],_,_,h=>⟨h.1,h.2.1,h.2.2.1⟩
 | r :: i,l,x,h=>by have:=kS h.2.2.2;have:=h.1;have:=h.2.1;omega
def gC (r:Rn):Rn:=⟨max r.lo 1,min r.hi 1000000000⟩
def aC (a:List Rn):List Rn:=(a.map gC).filter (fun c=>decide (c.lo <= c.hi))
theorem yt (a:List Rn) (n:Int):mem (aC a) n↔mem a n:=by
 constructor
 ·rintro ⟨h1,h2,x,hx,h3⟩;obtain ⟨hm,_⟩:=List.mem_filter.1 hx;obtain ⟨r,hr,rfl⟩:=List.mem_map.1 hm;unfold gC at h3;exact ⟨h1,h2,r,hr,by simp at h3;omega,by simp at h3;omega⟩
 ·rintro ⟨h1,h2,r,hr,h3⟩
  have hc:(gC r).lo <= n/\n <= (gC r).hi:=by unfold gC;simp;omega
  exact ⟨h1,h2,gC r,List.mem_filter.2 ⟨List.mem_map.2 ⟨r,hr,rfl⟩,decide_eq_true (by omega)⟩,hc⟩
theorem ws (a:List Rn) (x:Rn) (h:x∈aC a):1 <= x.lo/\x.lo <= x.hi/\x.hi <= 1000000000:=by
 obtain ⟨hm,hd⟩:=List.mem_filter.1 h;obtain ⟨r,_,rfl⟩:=List.mem_map.1 hm;have:=of_decide_eq_true hd;unfold gC at *;simp at *;omega
structure ey (P acc:List Rn):Prop where
 frm:form 1 acc
 mm:∀ n,mem acc n↔mem P n
 low:∀ x,x∈acc -> ∃ p,p∈P/\x.lo=p.lo
theorem ey.start:ey [] []:=⟨trivial,fun _=>Iff.rfl,fun x h=>by cases h⟩
theorem ey.first {P:List Rn} {r:Rn} (h:ey P []) (h1:1 <= r.lo) (h2:r.lo <= r.hi) (h3:r.hi <= 1000000000):ey (P++[r]) [r]:=by
 refine ⟨⟨h1,h2,h3,trivial⟩,fun n=>?_,fun x hx=>?_⟩
 ·rw [mem_append,<- h.mm n];exact ⟨Or.inr,fun e=>e.elim (fun e=>absurd e (qV n)) id⟩
 ·obtain rfl:=List.mem_singleton.1 hx;exact ⟨x,by simp,rfl⟩
theorem ey.new {P i:List Rn} {x r:Rn} (h:ey P (i++[x])) (hg:¬ r.lo <= x.hi+1) (h2:r.lo <= r.hi) (h3:r.hi <= 1000000000):ey (P++[r]) (i++[x]++[r]):=by
 refine ⟨kR h.frm (by omega) h2 h3,fun n=>?_,fun y hy=>?_⟩
 ·rw [mem_append,mem_append P,h.mm n]
 ·rcases List.mem_append.1 hy with e | e
  ·obtain ⟨p,hp,e⟩:=h.low y e;exact ⟨p,List.mem_append_left _ hp,e⟩
  ·obtain rfl:=List.mem_singleton.1 e;exact ⟨y,by simp,rfl⟩
theorem ey.join {P i:List Rn} {x r:Rn} (h:ey P (i++[x])) (hs:∀ p,p∈P -> p.lo <= r.lo) (hg:r.lo <= x.hi+1) (_:r.lo <= r.hi) (h3:r.hi <= 1000000000):ey (P++[r]) (i++[⟨x.lo,max x.hi r.hi⟩]):=by
 have hl:=kS h.frm
 have NH:x.lo <= r.lo:=by obtain ⟨p,hp,e⟩:=h.low x (by simp);have:=hs p hp;omega
 refine ⟨zeX h.frm rfl (by simp;omega) (by simp;omega),fun n=>?_,fun y hy=>?_⟩
 ·have:=h.mm n;rw [mem_append,qu] at this;rw [mem_append,qu,mem_append P,qu,<- this];simp only;constructor
  ·rintro (e | ⟨e1,e2,e3,e4⟩)
   ·exact Or.inl (Or.inl e)
   ·by_cases c:n <= x.hi
    ·exact Or.inl (Or.inr ⟨e1,e2,e3,c⟩)
    ·exact Or.inr ⟨e1,e2,by omega,by omega⟩
  ·rintro ((e | ⟨e1,e2,e3,e4⟩) | ⟨e1,e2,e3,e4⟩)
   ·exact Or.inl e
   ·exact Or.inr ⟨e1,e2,e3,by omega⟩
   ·exact Or.inr ⟨e1,e2,by omega,by omega⟩
 ·rcases List.mem_append.1 hy with e | e
  ·obtain ⟨p,hp,e⟩:=h.low y (List.mem_append_left _ e);exact ⟨p,List.mem_append_left _ hp,e⟩
  ·obtain rfl:=List.mem_singleton.1 e;obtain ⟨p,hp,e⟩:=h.low x (by simp);exact ⟨p,List.mem_append_left _ hp,e⟩
end
section
open Go.RowKit

structure Sl where
 ao:Option Addr
 n:Nat
 cap:Nat
 L:List Rn
def tot:List Sl -> Nat
 | []=>0
 | s :: r=>s.n+tot r
def cat:List Sl -> List Rn
 | []=>[]
 | s :: r=>s.L++cat r
structure ER (w:World) (ao:Option Addr) (q:Nat) (X:List Sl):Prop where
 len:X.length=q
 nil:ao=none -> q=0
 cell:∀ ad,ao=some ad -> ∀ t s,X[t]? = some s -> w.cell? (ad.add t)=some (.slice s.ao s.n s.cap)
 src:∀ s,s∈X -> aX w s.ao s.n s.cap s.L
 big:q <= 8796093022207
theorem ER.at {w:World} {ao:Option Addr} {q:Nat} {X:List Sl} (h:ER w ao q X) (k:Nat) (hk:k < q):∃ ad s,ao=some ad/\X[k]? = some s/\w.cell? (ad.add k)=some (.slice s.ao s.n s.cap)/\aX w s.ao s.n s.cap s.L:=by
 have i6:k < X.length:=by rw [h.len];exact hk
 cases ao with
 | none=>have:=h.nil rfl;omega
 | some ad=>exact ⟨ad,X[k],rfl,List.getElem?_eq_getElem i6,h.cell ad rfl k _ (List.getElem?_eq_getElem i6),h.src _ (List.getElem_mem i6)⟩
end
section
open Go.RowKit

structure Sn where
 rep:Int
 lo:Int
 hi:Int
instance:DecidableEq Sn:=fun a b=>decidable_of_iff (a.rep=b.rep/\a.lo=b.lo/\a.hi=b.hi) ⟨fun ⟨h1,h2,h3⟩=>by cases a;cases b;simp_all,fun h=>by subst h;exact ⟨rfl,rfl,rfl⟩⟩
def sn0:Sn:=⟨0,0,0⟩
instance:Inhabited Sn:=⟨sn0⟩
def SC (s:Sn):Array Value:=#[.int .i64 s.rep,.int .i64 s.lo,.int .i64 s.hi]
abbrev SV (s:Sn):Value:=.agg (SC s)
theorem qY (s:Sn):(SC s).size=3:=rfl
theorem zfy (s:Sn):∀ v∈(SC s).toList,v.oneCell'=true:=by
 intro v hv;simp [SC] at hv;rcases hv with rfl | rfl | rfl <;> rfl
theorem qB (s:Sn):(SV s).cells=SC s:=by simp [Value.cells]
theorem xN:(#[.int .i64 0,.int .i64 0,.int .i64 0]:Array Value)=SC sn0:=rfl
theorem ko (s:Sn):Array.foldl (fun cs x=>cs.setIfInBounds x.snd x.fst) (SC sn0) (SC s).zipIdx 0 3=SC s:=rfl
theorem zaE (x y z:Int):(((SC sn0).setIfInBounds 0 (.int .i64 x)).setIfInBounds 1 (.int .i64 y)).setIfInBounds 2 (.int .i64 z)=SC ⟨x,y,z⟩:=rfl
structure iP (w:World) (p:Addr) (s:Sn):Prop where
 c0:w.cell? p=some (.int .i64 s.rep)
 c1:w.cell? (p.add 1)=some (.int .i64 s.lo)
 c2:w.cell? (p.add 2)=some (.int .i64 s.hi)
theorem iP.on {w w':World} {p:Addr} {s:Sn} (S:iP w p s) (hb:Below w.heap.size w w'):iP w' p s:=by
 have h0:=World.block_lt_of_cell? _ _ S.c0;exact ⟨by rw [hb.cell h0];exact S.c0,by rw [hb.cell (by rw [zs];exact h0)];exact S.c1,by rw [hb.cell (by rw [zs];exact h0)];exact S.c2⟩
def dr (w:World) (g:Nat) (s:Sn):Prop:=w.heap[g]? = some (.cells (SC s) 104 (0,0))
theorem dr.lt {w:World} {g:Nat} {s:Sn} (h:dr w g s):g < w.heap.size:=(Array.getElem?_eq_some_iff.1 h).1
theorem dr.at {w:World} {g:Nat} {s:Sn} (h:dr w g s):w.cell? ⟨g,0,none⟩=some (.int .i64 s.rep)/\w.cell? ⟨g,1,none⟩=some (.int .i64 s.lo)/\w.cell? ⟨g,2,none⟩=some (.int .i64 s.hi):=by
 unfold dr at h;refine ⟨?_,?_,?_⟩ <;> simp [World.cell?,h,SC]
theorem dr.below {w w':World} {g:Nat} {s:Sn} (h:dr w g s) (hb:Below w.heap.size w w'):dr w' g s:=(hb.block g h.lt).trans h
theorem qH (w:World) (s:Sn):dr (w.alloc (.cells (SC s) 104)) w.heap.size s:=by unfold dr;rw [heap_alloc_new]
def ldS (v:Value):Sem Value:=Instr.loadAt 104 v
theorem xT (v:Value):Instr.loadAt 104 v=ldS v:=rfl
def stS (p v:Value):Sem Unit:=Instr.storeAt 104 p v
theorem jn (p v:Value):Instr.storeAt 104 p v=stS p v:=rfl
theorem oD:(Tryz.prog.info? 104).map (·.size)=some 3:=by kernel_rfl
theorem rP:(Tryz.prog.info? 104).map (fun i=>(i.zero,i.size,i.bytes))=some (some (.agg #[.int .i64 0,.int .i64 0,.int .i64 0]),3,24):=by kernel_rfl
theorem qk {w:World} {p:Addr} {s:Sn} (A:iP w p s):(ldS (.pointer (some p))).run Tryz.prog w = .ok (SV s) w:=by
 have hl:=run_loadCells_list (P:=Tryz.prog) (w:=w) p (SC s).toList (fun j v hv=>by
  match j,hv with
  | 0,hv=>cases hv;rw [add_zero];exact A.c0
  | 1,hv=>cases hv;exact A.c1
  | 2,hv=>cases hv;exact A.c2
  | j+3,hv=>simp [SC] at hv)
 unfold ldS;simp only [Instr.loadAt,Instr.sureAddr,Sem.run_bind,Sem.run_pure,Result.andThen]
 cases hq:Tryz.prog.info? 104 with
 | none=>have:=oD;simp [hq] at this
 | some x =>
  have hs:x.size=3:=by have:=oD;simpa [hq] using this
  have dR:(isAgg 104).run Tryz.prog w = .ok true w:=by
   unfold isAgg;rw [Sem.run_bind,run_underlying Tryz.underlying104 w];rfl
  have e2:(SC s).toList.length=3:=rfl;rw [e2] at hl;simp [loadVar,Sem.run_bind,dR,sizeOf,typeInfo,hq,hs,hl,SV]
theorem bJ {w:World} {g:Nat} {s s':Sn} (A:dr w g s):(stS (.pointer (some ⟨g,0,none⟩)) (SV s')).run Tryz.prog w = .ok () (w.setRow g (SC s')):=by
 unfold stS;have h:=run_storeCells_from (P:=Tryz.prog) g 104 (SC s').toList 0 (SC s) w A (by simp [SC]) (zfy s')
 cases hq:Tryz.prog.info? 104 with
 | none=>have:=oD;simp [hq] at this
 | some x =>
  have hs:x.size=3:=by have:=oD;simpa [hq] using this
  simp only [Instr.storeAt,Instr.sureAddr,Sem.run_bind,Sem.run_pure,Result.andThen,storeVar,sizeOf,typeInfo,qB,qY];simp at h;simp [h,hq,hs]
theorem lE (w:World) (s:Sn) (g:Nat) (hg:w.heap.size=g):∃ w':World,(stS (.pointer (some ⟨g,0,none⟩)) (SV s)).run Tryz.prog (w.alloc (.cells (SC sn0) 104)) = .ok () w'/\dr w' g s/\Below w.heap.size w w'/\w'.heap.size=w.heap.size+1:=by
 subst hg;exact ⟨_,bJ (qH w sn0),setRow_heap _ _ _ _ _ _ (qH w sn0),zh (ze w _) (Nat.le_refl _),by simp [World.setRow]⟩
structure cN (w:World) (ao:Option Addr) (m c:Nat) (L:List Sn):Prop where
 len:L.length=m
 nil:ao=none -> m=0/\c=0
 cell:∀ ad,ao=some ad -> ∀ t,t < m -> iP w (ad.add (t * 3)) (L.getD t sn0)
 big:m <= 5864062014805
 cap:m <= c
theorem cN.below {w w':World} {ao:Option Addr} {m c:Nat} {L:List Sn} (h:cN w ao m c L) (hb:Below w.heap.size w w'):cN w' ao m c L:=
 ⟨h.len,h.nil,fun ad ha t ht=>(h.cell ad ha t ht).on hb,h.big,h.cap⟩
theorem cN.at {w:World} {ao:Option Addr} {m c:Nat} {L:List Sn} (h:cN w ao m c L) (k:Nat) (hk:k < m):∃ ad,ao=some ad/\iP w (ad.add (k * 3)) (L.getD k sn0):=by
 cases ao with
 | none=>have:=h.nil rfl;omega
 | some ad=>exact ⟨ad,rfl,h.cell ad rfl k hk⟩
theorem cN.empty (w:World):cN w none 0 0 []:=⟨rfl,fun _=>⟨rfl,rfl⟩,(fun ad h=>by cases h),by omega,Nat.le_refl _⟩
theorem cN.spot {w:World} {ad:Addr} {m c:Nat} {L:List Sn} (h:cN w (some ad) m c L) (hm:0 < m):∃ b o,ad=⟨b,o,none⟩:=by
 have:=World.cell?_spot (h.cell ad rfl 0 hm).c0;obtain ⟨b,o,s⟩:=ad
 have hs:s=none:=by simpa [Addr.add] using this
 exact ⟨b,o,by rw [hs]⟩
theorem cN.off {w w':World} {ao:Option Addr} {m c:Nat} {L:List Sn} (h:cN w ao m c L) (hk:∀ ad,ao=some ad -> w'.heap[ad.block]? = w.heap[ad.block]?):cN w' ao m c L:=by
 refine ⟨h.len,h.nil,fun ad ha t ht=>?_,h.big,h.cap⟩;have A:=h.cell ad ha t ht
 have e:∀ m,w'.cell? (ad.add m)=w.cell? (ad.add m):=fun m=>by unfold World.cell?;rw [zs,hk ad ha]
 exact ⟨by rw [e];exact A.c0,by have:=A.c1;rw [qC] at this ⊢;rw [e];exact this,by have:=A.c2;rw [qC] at this ⊢;rw [e];exact this⟩
def scs (L:List Sn):List Value:=(L.map (fun r=>(SC r).toList)).flatten
theorem yL (L R:List Sn):scs (L++R)=scs L++scs R:=by simp [scs]
theorem zd9 (r:Sn):scs [r]=(SC r).toList:=by simp [scs]
theorem ziS (L:List Sn) (t j:Nat) (ht:t < L.length) (hj:j < 3):(scs L)[t * 3+j]? = (SC (L.getD t sn0)).toList[j]?:=by
 induction L generalizing t with
 | nil=>simp at ht
 | cons a L ih =>
  have e:scs (a :: L)=(SC a).toList++scs L:=rfl
  cases t with
  | zero=>rw [e,List.getElem?_append_left (by simp [SC];omega)];simp [List.getD]
  | succ t =>
   rw [e,List.getElem?_append_right (by simp [SC];omega)];have h:=ih t (by simpa using ht)
   have e4:(t+1) * 3+j - (SC a).toList.length=t * 3+j:=by simp [SC];omega
   rw [e4,h];simp [List.getD]
structure eH (B0 B:Nat) (w w':World) (ao:Option Addr) (cap:Nat) (acc:List Sn):Prop where
 own:w'.ownsRow B 104 3 (.slice ao acc.length cap) acc.length (scs acc)
 below:Below B0 w w'
 hB:B <= w'.heap.size
 hB0:B0 <= B
theorem eH.nil {B0 B:Nat} {w w':World} (hb:Below B0 w w') (hB:B <= w'.heap.size) (h0:B0 <= B):eH B0 B w w' none 0 []:=
 ⟨World.ownsRow_nil _ _ _ _,hb,hB,h0⟩
theorem eH.append {B0 B:Nat} {w w':World} {ao:Option Addr} {cap:Nat} {acc:List Sn} (O:eH B0 B w w' ao cap acc) (e:Sn) (C:Array Value) (hC:C=SC e) (cF:acc.length < 5864062014805)
  {ops:Array Oper} {rest:List Oper} {o:Oper} {a:Act} {Q:Exit -> Act -> World -> Prop} (hgd:o.guard=none) (s x:Operand) (ho:o.op = .call { callee:=.builtin .append,args:=#[s,x],argTypes:=#[24,24] })
  (n:Nat) (hn:acc.length=n) (hs:a.eval s = .slice ao n cap) (hx:a.eval x = .slice (some ⟨w'.heap.size,0,none⟩) 1 1)
  (hK:∀ (g cap2:Nat) (w2:World),eH B0 B w w2 (some ⟨g,0,none⟩) cap2 (acc++[e]) -> (∀ k,k < w'.heap.size -> (Value.slice ao acc.length cap).ownBlock≠some k -> w2.heap[k]? = w'.heap[k]? /\ g≠k) -> wpList Tryz.prog ops Q rest (a.put o.dst (.slice (some ⟨g,0,none⟩) (n+1) cap2)) w2) :
  wpList Tryz.prog ops Q (o :: rest) a (w'.alloc (.cells C 104)):=by
 subst hn hC;obtain ⟨i0,hi,dg,dn,ee⟩:=info_parts rP;have hB:=O.hB;have hB0:=O.hB0;refine wpList_append_own_at _ hgd s x 24 ho B 104 i0 (.agg #[.int .i64 0,.int .i64 0,.int .i64 0]) 3 24 Tryz.underlying24 hi dg dn ee rfl (by decide) _ acc.length (scs acc) hs (O.own.alloc _) ⟨w'.heap.size,0,none⟩ 1 1 (SC e).toList hx (by simp [SC]) ?_ ?_ (by unfold maxLen;omega) (by omega) (by simp;omega) ?_
 ·intro j u hj;rw [Addr.add_lit,Nat.zero_add,World.cell?_alloc_new];simpa using hj
 ·intro u hu;exact zfy e u hu
 ·intro v' w2 aM az _ gZ
  rcases aM.2 with ⟨h0,fh⟩ | ⟨g,cap2,cur,hv,r⟩
  ·omega
  ·subst hv;have dx:∀ k,(Value.slice ao acc.length cap).ownBlock=some k -> B <= k:=fun k hk=>(O.own.lt k hk).1;have dP:=az.size;rw [World.size_alloc] at dP;refine hK g cap2 w2 ⟨?_,(O.below.alloc (by omega) _).grown az (by simp;omega) (fun k hk=>by have:=dx k hk;omega),by omega,hB0⟩ (fun k hk ch=>?_)
   ·rw [List.length_append,yL,zd9];exact aM
   ·refine ⟨?_,fun e=>?_⟩
    ·rw [az.block k (by simp;omega) (fun e=>ch e.symm)];exact Below.heap_alloc _ _ _ hk
    ·rcases gZ with h | h
     ·exact ch (by rw [<- h,<- e];rfl)
     ·simp [Value.ownBlock] at h;omega
theorem eH.later {B0 B:Nat} {w w' w2:World} {ao:Option Addr} {cap:Nat} {acc:List Sn} (O:eH B0 B w w' ao cap acc) (hb:Below w'.heap.size w' w2):eH B0 B w w2 ao cap acc:=by
 refine ⟨⟨O.own.1,?_⟩,O.below.trans (hb.mono (Nat.le_trans O.hB0 O.hB)),Nat.le_trans O.hB hb.size,O.hB0⟩;rcases O.own.2 with h | ⟨g,cap2,cur,hv,dN,dy,r⟩
 ·exact Or.inl h
 ·exact Or.inr ⟨g,cap2,cur,hv,dN,(hb.block g (Array.getElem?_eq_some_iff.1 dy).1).trans dy,r⟩
theorem eH.src {B0 B:Nat} {w w':World} {ao:Option Addr} {cap:Nat} {acc:List Sn} (O:eH B0 B w w' ao cap acc) (hl:acc.length <= 5864062014805):cN w' ao acc.length cap acc/\∀ ad,ao=some ad -> B <= ad.block:=by
 rcases O.own.2 with ⟨h0,fh⟩ | ⟨g,cap2,cur,hv,dN,dy,hnc,eV,hcsz,htake⟩
 ·simp only [Value.slice.injEq] at h0;obtain ⟨rfl,e0,rfl⟩:=h0;exact ⟨⟨rfl,fun _=>⟨fh,rfl⟩,(fun ad h=>by cases h),hl,by omega⟩,fun ad h=>(by cases h)⟩
 ·simp only [Value.slice.injEq,true_and] at hv;obtain ⟨rfl,rfl⟩:=hv
  have cell:∀ t j,t < acc.length -> j < 3 -> w'.cell? ⟨g,t * 3+j,none⟩=(SC (acc.getD t sn0)).toList[j]?:=fun t j ht hj=>by
   rw [O.own.cellAt (t * 3+j) (by omega),ziS _ t j ht hj]
  refine ⟨⟨rfl,fun h=>(by cases h),fun ad h t ht=>?_,hl,hnc⟩,fun ad h=>by obtain rfl:=Option.some.inj h;exact dN⟩;obtain rfl:=Option.some.inj h;refine ⟨?_,?_,?_⟩
  ·rw [Addr.add_lit,Nat.zero_add];exact cell t 0 ht (by omega)
  ·rw [Addr.add_lit,Addr.add_lit,Nat.zero_add];exact cell t 1 ht (by omega)
  ·rw [Addr.add_lit,Addr.add_lit,Nat.zero_add];exact cell t 2 ht (by omega)
structure Pst where
 vec:List Int
 cloud:List Sn
instance:DecidableEq Pst:=fun a b=>decidable_of_iff (a.vec=b.vec/\a.cloud=b.cloud) ⟨fun ⟨h1,h2⟩=>by cases a;cases b;simp_all,fun h=>by subst h;exact ⟨rfl,rfl⟩⟩
structure Pv where
 vo:Option Addr
 vn:Nat
 vc:Nat
 co:Option Addr
 cn:Nat
 cc:Nat
 P:Pst
def PC (p:Pv):Array Value:=#[.slice p.vo p.vn p.vc,.slice p.co p.cn p.cc]
abbrev PV (p:Pv):Value:=.agg (PC p)
def pv0:Pv:=⟨none,0,0,none,0,0,⟨[],[]⟩⟩
theorem zj (p:Pv):(PC p).size=2:=rfl
theorem zjo (p:Pv):∀ v∈(PC p).toList,v.oneCell'=true:=by
 intro v hv;simp [PC] at hv;rcases hv with rfl | rfl <;> rfl
theorem zi (p:Pv):(PV p).cells=PC p:=by simp [Value.cells]
theorem zE:(#[.slice none 0 0,.slice none 0 0]:Array Value)=PC pv0:=rfl
theorem qm (p:Pv):Array.foldl (fun cs x=>cs.setIfInBounds x.snd x.fst) (PC pv0) (PC p).zipIdx 0 2=PC p:=rfl
structure am (w:World) (p:Pv):Prop where
 vec:V.Src w p.vo p.vn p.vc p.P.vec
 cloud:cN w p.co p.cn p.cc p.P.cloud
 big:p.vn <= 17592186044415
theorem am.below {w w':World} {p:Pv} (h:am w p) (hb:Below w.heap.size w w'):am w' p:=⟨h.vec.below hb,h.cloud.below hb,h.big⟩
theorem am.zero (w:World):am w pv0:=⟨⟨rfl,fun _=>⟨rfl,rfl⟩,fun ad h=>(by cases h)⟩,cN.empty w,by simp [pv0]⟩
structure PAt (w:World) (a:Addr) (p:Pv):Prop where
 c0:w.cell? a=some (.slice p.vo p.vn p.vc)
 c1:w.cell? (a.add 1)=some (.slice p.co p.cn p.cc)
theorem PAt.on {w w':World} {a:Addr} {p:Pv} (S:PAt w a p) (hb:Below w.heap.size w w'):PAt w' a p:=by
 have h0:=World.block_lt_of_cell? _ _ S.c0;exact ⟨by rw [hb.cell h0];exact S.c0,by rw [hb.cell (by rw [zs];exact h0)];exact S.c1⟩
def aA (w:World) (g:Nat) (p:Pv):Prop:=w.heap[g]? = some (.cells (PC p) 26 (0,0))
theorem aA.lt {w:World} {g:Nat} {p:Pv} (h:aA w g p):g < w.heap.size:=(Array.getElem?_eq_some_iff.1 h).1
theorem aA.at {w:World} {g:Nat} {p:Pv} (h:aA w g p):PAt w ⟨g,0,none⟩ p:=by
 unfold aA at h;refine ⟨?_,?_⟩ <;> simp [Addr.add,World.cell?,h,PC]
theorem aA.nums {w:World} {g:Nat} {p:Pv} (h:aA w g p):w.cell? ⟨g,0,none⟩=some (.slice p.vo p.vn p.vc)/\w.cell? ⟨g,1,none⟩=some (.slice p.co p.cn p.cc):=by
 unfold aA at h;refine ⟨?_,?_⟩ <;> simp [World.cell?,h,PC]
theorem aA.below {w w':World} {g:Nat} {p:Pv} (h:aA w g p) (hb:Below w.heap.size w w'):aA w' g p:=(hb.block g h.lt).trans h
theorem zr (w:World) (p:Pv):aA (w.alloc (.cells (PC p) 26)) w.heap.size p:=by unfold aA;rw [heap_alloc_new]
def ldP (v:Value):Sem Value:=Instr.loadAt 26 v
theorem zq (v:Value):Instr.loadAt 26 v=ldP v:=rfl
def stP (p v:Value):Sem Unit:=Instr.storeAt 26 p v
theorem zp (p v:Value):Instr.storeAt 26 p v=stP p v:=rfl
theorem oz:(Tryz.prog.info? 26).map (·.size)=some 2:=by kernel_rfl
theorem zbJ {w:World} {a:Addr} {p:Pv} (A:PAt w a p):(loadVar 26 a).run Tryz.prog w = .ok (PV p) w:=by
 have hl:=run_loadCells_list (P:=Tryz.prog) (w:=w) a (PC p).toList (fun j v hv=>by
  match j,hv with
  | 0,hv=>cases hv;rw [add_zero];exact A.c0
  | 1,hv=>cases hv;exact A.c1
  | j+2,hv=>simp [PC] at hv)
 cases hq:Tryz.prog.info? 26 with
 | none=>have:=oz;simp [hq] at this
 | some x =>
  have hs:x.size=2:=by have:=oz;simpa [hq] using this
  have dR:(isAgg 26).run Tryz.prog w = .ok true w:=by
   unfold isAgg;rw [Sem.run_bind,run_underlying Tryz.underlying26 w];rfl
  have e2:(PC p).toList.length=2:=rfl;rw [e2] at hl;simp [loadVar,Sem.run_bind,dR,sizeOf,typeInfo,hq,hs,hl,PV]
theorem zl {w:World} {a:Addr} {p:Pv} (A:PAt w a p):(ldP (.pointer (some a))).run Tryz.prog w = .ok (PV p) w:=by
 unfold ldP;simp only [Instr.loadAt,Instr.sureAddr,Sem.run_bind,Sem.run_pure,Result.andThen];exact zbJ A
theorem qQ {w:World} {g:Nat} {p p':Pv} (A:aA w g p):(stP (.pointer (some ⟨g,0,none⟩)) (PV p')).run Tryz.prog w = .ok () (w.setRow g (PC p')):=by
 unfold stP;have h:=run_storeCells_from (P:=Tryz.prog) g 26 (PC p').toList 0 (PC p) w A (by simp [PC]) (zjo p')
 cases hq:Tryz.prog.info? 26 with
 | none=>have:=oz;simp [hq] at this
 | some x =>
  have hs:x.size=2:=by have:=oz;simpa [hq] using this
  simp only [Instr.storeAt,Instr.sureAddr,Sem.run_bind,Sem.run_pure,Result.andThen,storeVar,sizeOf,typeInfo,zi,zj];simp at h;simp [h,hq,hs]
theorem it (w:World) (p:Pv) (g:Nat) (hg:w.heap.size=g):∃ w':World,(stP (.pointer (some ⟨g,0,none⟩)) (PV p)).run Tryz.prog (w.alloc (.cells (PC pv0) 26)) = .ok () w'/\aA w' g p/\Below w.heap.size w w'/\w'.heap.size=w.heap.size+1:=by
 subst hg;exact ⟨_,qQ (zr w pv0),setRow_heap _ _ _ _ _ _ (zr w pv0),zh (ze w _) (Nat.le_refl _),by simp [World.setRow]⟩
theorem eS {fn:Func} {t:Tmp} {w:World} {g:Nat} {p:Pv} (h:fn.results=#[.cell t 26]) {tmps:Array Value} (hp:tmps.getD t undef = .pointer (some ⟨g,0,none⟩)) (A:aA w g p):(results fn tmps).run Tryz.prog w = .ok (PV p) w:=by
 have hl:=zbJ A.at
 simp only [results,h];rw [Array.getD_eq_getD_getElem?] at hp;simp [hp,asAddr,hl]
structure fq (w:World) (ao:Option Addr) (q:Nat) (X:List Pv):Prop where
 len:X.length=q
 nil:ao=none -> q=0
 cell:∀ ad,ao=some ad -> ∀ t p,X[t]? = some p -> PAt w (ad.add (t * 2)) p
 src:∀ p,p∈X -> am w p
theorem fq.below {w w':World} {ao:Option Addr} {q:Nat} {X:List Pv} (h:fq w ao q X) (hb:Below w.heap.size w w'):fq w' ao q X:=
 ⟨h.len,h.nil,fun ad ha t p hs=>(h.cell ad ha t p hs).on hb,fun p hp=>(h.src p hp).below hb⟩
theorem fq.at {w:World} {ao:Option Addr} {q:Nat} {X:List Pv} (h:fq w ao q X) (k:Nat) (hk:k < q):∃ ad p,ao=some ad/\X[k]? = some p/\PAt w (ad.add (k * 2)) p/\am w p:=by
 have i6:k < X.length:=by rw [h.len];exact hk
 cases ao with
 | none=>have:=h.nil rfl;omega
 | some ad=>exact ⟨ad,X[k],rfl,List.getElem?_eq_getElem i6,h.cell ad rfl k _ (List.getElem?_eq_getElem i6),h.src _ (List.getElem_mem i6)⟩
def pcs (X:List Pv):List Value:=(X.map (fun p=>(PC p).toList)).flatten
theorem ziW (L:List Pv) (t j:Nat) (p:Pv) (ht:L[t]? = some p) (hj:j < 2):(pcs L)[t * 2+j]? = (PC p).toList[j]?:=by
 induction L generalizing t with
 | nil=>simp at ht
 | cons a L ih =>
  have e:pcs (a :: L)=(PC a).toList++pcs L:=rfl
  cases t with
  | zero=>simp at ht;subst ht;rw [e,List.getElem?_append_left (by simp [PC];omega)];simp
  | succ t =>
   rw [e,List.getElem?_append_right (by simp [PC];omega)];have h:=ih t (by simpa using ht)
   have e4:(t+1) * 2+j - (PC a).toList.length=t * 2+j:=by simp [PC];omega
   rw [e4,h]
theorem zcB (W:World) (g:Nat) (X:List Pv) (C:Array Value) (hC:C=(pcs X).toArray) (T:TypeId) (n:Nat) (hl:X.length=n) (hg:W.heap[g]? = some (.cells C T (0,0))) (hs:∀ p,p∈X -> am W p):fq W (some ⟨g,0,none⟩) n X:=by
 subst hC
 have cell:∀ t j p,X[t]? = some p -> j < 2 -> W.cell? ⟨g,t * 2+j,none⟩=(PC p).toList[j]?:=by
  intro t j p ht hj;simp only [World.cell?,hg];simp [ziW X t j p ht hj]
 refine ⟨hl,fun h=>(by cases h),fun ad h t p ht=>?_,hs⟩;obtain rfl:=Option.some.inj h;refine ⟨?_,?_⟩
 ·rw [Addr.add_lit,Nat.zero_add];exact cell t 0 p ht (by omega)
 ·rw [Addr.add_lit,Addr.add_lit,Nat.zero_add];exact cell t 1 p ht (by omega)
end
section
open Go.RowKit

structure Si where
 ao:Option Addr
 n:Nat
 cap:Nat
 L:List Int
def siv (s:Si):Value:=.slice s.ao s.n s.cap
def si0:Si:=⟨none,0,0,[]⟩
theorem zdz (e:Int):ics [e]=[.int .i64 e]:=rfl
def JA (F:Nat -> Si):Array Value:=((List.range 16).map fun r=>siv (F r)).toArray
abbrev JAv (F:Nat -> Si):Value:=.agg (JA F)
theorem ziH (F:Nat -> Si):(JA F).size=16:=by simp [JA]
theorem zjr (F:Nat -> Si) (t:Nat) (h:t < 16):(JA F)[t]? = some (siv (F t)):=by simp [JA,h]
theorem zhj {F G:Nat -> Si} (h:∀ r,r < 16 -> F r=G r):JA F=JA G:=by
 unfold JA;congr 1;apply List.map_congr_left;intro r hr;rw [h r (by simpa using hr)]
theorem zjq (F:Nat -> Si):∀ v∈(JA F).toList,v.oneCell'=true:=by
 intro v hv;simp only [JA,List.mem_map] at hv;obtain ⟨r,_,rfl⟩:=hv;rfl
theorem qT (F:Nat -> Si):(JAv F).cells=JA F:=by simp [Value.cells]
theorem xF:(#[.slice none 0 0,.slice none 0 0,.slice none 0 0,.slice none 0 0,.slice none 0 0,.slice none 0 0,.slice none 0 0,.slice none 0 0,.slice none 0 0,.slice none 0 0,.slice none 0 0,.slice none 0 0,.slice none 0 0,.slice none 0 0,.slice none 0 0,.slice none 0 0]:Array Value)=JA (fun _=>si0):=rfl
def eR (F:Nat -> Si) (k:Nat) (s:Si):Nat -> Si:=fun r=>if r=k then s else F r
theorem xp (F:Nat -> Si) (k:Nat) (s:Si):eR F k s k=s:=by simp [eR]
theorem qh (F:Nat -> Si) (k r:Nat) (s:Si) (h:r≠k):eR F k s r=F r:=by simp [eR,h]
def aS (w:World) (g:Nat) (T:TypeId) (F:Nat -> Si):Prop:=w.heap[g]? = some (.cells (JA F) T (0,0))
section
variable {w w' : World} {g : Nat} {T : TypeId} {F : Nat -> Si}
theorem aS.lt (h:aS w g T F):g < w.heap.size:=(Array.getElem?_eq_some_iff.1 h).1
theorem aS.cell (h:aS w g T F) (t:Nat) (ht:t < 16):w.cell? ⟨g,t,none⟩=some (.slice (F t).ao (F t).n (F t).cap):=by
 unfold aS at h;simp [World.cell?,h,zjr F t ht,siv]
theorem aS.frozen (h:aS w g T F) (t:Nat):w.frozen? ⟨g,t,none⟩=false:=by unfold aS at h;simp [World.frozen?,h]
theorem zjp (F:Nat -> Si) (t:Nat) (s:Si):(JA F).setIfInBounds t (siv s)=JA (eR F t s):=by
 apply Array.ext
 ·simp [JA]
 ·intro i h1 h2;simp [JA] at h2;by_cases h:t=i
  ·subst h;simp [JA,eR]
  ·have:¬ i=t:=fun e=>h e.symm;simp [JA,eR,h,this]
theorem aS.set (h:aS w g T F) (t:Nat) (s:Si) (v:Value) (hv:v=siv s):aS (w.setCell ⟨g,t,none⟩ v) g T (eR F t s):=by
 subst hv;unfold aS at h ⊢;simp [World.setCell,h,Array.getElem?_modify,<- zjp]
theorem aS.congr {G:Nat -> Si} (h:aS w g T F) (e:∀ r,r < 16 -> F r=G r):aS w g T G:=by
 unfold aS at h ⊢;rw [<- zhj e];exact h
theorem aS.below (h:aS w g T F) (hb:Below w.heap.size w w'):aS w' g T F:=(hb.block g h.lt).trans h
theorem aS.off {q:Nat} {v:Value} {t:Nat} (h:aS w g T F) (ch:q≠g):aS (w.setCell ⟨q,t,none⟩ v) g T F:=by
 unfold aS at h ⊢;simp [World.setCell,Array.getElem?_modify,ch,h]
theorem xA (w:World) (T:TypeId) (F:Nat -> Si):aS (w.alloc (.cells (JA F) T)) w.heap.size T F:=by unfold aS;rw [heap_alloc_new]
end
def ldJ (v:Value):Sem Value:=Instr.loadAt 141 v
theorem kN (v:Value):Instr.loadAt 141 v=ldJ v:=rfl
def stJ (p v:Value):Sem Unit:=Instr.storeAt 141 p v
theorem kz (p v:Value):Instr.storeAt 141 p v=stJ p v:=rfl
theorem oI:(Tryz.prog.info? 141).map (·.size)=some 16:=by kernel_rfl
theorem zee {w:World} {g:Nat} {T:TypeId} {F:Nat -> Si} (A:aS w g T F):(loadVar 141 ⟨g,0,none⟩).run Tryz.prog w = .ok (JAv F) w:=by
 have hl:=run_loadCells_list (P:=Tryz.prog) (w:=w) ⟨g,0,none⟩ (JA F).toList (fun j v hv=>by
  rw [Addr.add_lit,Nat.zero_add]
  have hj:j < 16:=by have:=(List.getElem?_eq_some_iff.1 hv).1;simpa [JA] using this
  rw [A.cell j hj];have:=zjr F j hj;simp only [Array.getElem?_toList] at hv
  rw [this] at hv;exact hv)
 cases hq:Tryz.prog.info? 141 with
 | none=>have:=oI;simp [hq] at this
 | some x =>
  have hs:x.size=16:=by have:=oI;simpa [hq] using this
  have dR:(isAgg 141).run Tryz.prog w = .ok true w:=by
   unfold isAgg;rw [Sem.run_bind,run_underlying Tryz.underlying141 w];rfl
  have e:(JA F).toList.length=16:=by simp [JA]
  rw [e] at hl;simp [loadVar,Sem.run_bind,dR,sizeOf,typeInfo,hq,hs,hl,JAv]
theorem zhV {w:World} {g:Nat} {T:TypeId} {F:Nat -> Si} (A:aS w g T F):(ldJ (.pointer (some ⟨g,0,none⟩))).run Tryz.prog w = .ok (JAv F) w:=by
 unfold ldJ;simp only [Instr.loadAt,Instr.sureAddr,Sem.run_bind,Sem.run_pure,Result.andThen];exact zee A
theorem zbH {w:World} {g:Nat} {T:TypeId} {F F':Nat -> Si} (A:aS w g T F):(stJ (.pointer (some ⟨g,0,none⟩)) (JAv F')).run Tryz.prog w = .ok () (w.setRow g (JA F')):=by
 unfold stJ;have h:=run_storeCells_from (P:=Tryz.prog) g T (JA F').toList 0 (JA F) w A (by simp [JA]) (zjq F')
 cases hq:Tryz.prog.info? 141 with
 | none=>have:=oI;simp [hq] at this
 | some x =>
  have hs:x.size=16:=by have:=oI;simpa [hq] using this
  simp only [Instr.storeAt,Instr.sureAddr,Sem.run_bind,Sem.run_pure,Result.andThen,storeVar,sizeOf,typeInfo,qT,ziH];simp at h;simp [h,hq,hs]
theorem aS.setRow {w:World} {g:Nat} {T:TypeId} {F F':Nat -> Si} (A:aS w g T F):aS (w.setRow g (JA F')) g T F':=setRow_heap w g _ _ _ _ A
theorem EI {fn:Func} {p:Tmp} {w:World} {g:Nat} {T:TypeId} {F:Nat -> Si} (h:fn.results=#[.cell p 141]) {tmps:Array Value} (hp:tmps.getD p undef = .pointer (some ⟨g,0,none⟩)) (A:aS w g T F) :
  (results fn tmps).run Tryz.prog w = .ok (JAv F) w:=by
 have hl:=zee A;simp only [results,h];rw [Array.getD_eq_getD_getElem?] at hp;simp [hp,asAddr,hl]

def mQ (s:Si):Option Nat:=s.ao.map (·.block)
theorem jb (s:Si):(Value.slice s.ao s.n s.cap).ownBlock=mQ s:=by
 cases s with | mk ao n c L=>cases ao <;> rfl
structure dE (B:Nat) (W:World) (F:Nat -> Si):Prop where
 own:∀ r,r < 32 -> W.ownsRow B 3 1 (.slice (F r).ao (F r).n (F r).cap) (F r).n (ics (F r).L)
 apart:∀ r s,r < 32 -> s < 32 -> r≠s -> ∀ k,mQ (F r)=some k -> mQ (F s)≠some k
def eM (F:Nat -> Si) (q:Nat):Prop:=∀ r,r < 32 -> mQ (F r)≠some q
theorem dE.nil (B:Nat) (W:World):dE B W (fun _=>si0):=⟨fun _ _=>World.ownsRow_nil _ _ _ _,fun _ _ _ _ _ k h=>by cases h⟩
theorem dE.lt {B:Nat} {W:World} {F:Nat -> Si} (O:dE B W F) {r k:Nat} (hr:r < 32) (h:mQ (F r)=some k):B <= k/\k < W.heap.size:=(O.own r hr).lt k (by rw [jb];exact h)
theorem dE.off {B:Nat} {W:World} {F:Nat -> Si} (O:dE B W F) (q:Nat) (h:q < B∨W.heap.size <= q):eM F q:=fun r hr e=>by have:=O.lt hr e;omega
theorem dE.kept {B:Nat} {W W':World} {F:Nat -> Si} (O:dE B W F) (h:∀ q,q < W.heap.size -> ¬ eM F q -> W'.heap[q]? = W.heap[q]?):dE B W' F:=by
 refine ⟨fun r hr=>⟨(O.own r hr).1,?_⟩,O.apart⟩;rcases (O.own r hr).2 with h0 | ⟨g,cap2,cur,hv,dN,dy,rr⟩
 ·exact Or.inl h0
 ·refine Or.inr ⟨g,cap2,cur,hv,dN,(h g (Array.getElem?_eq_some_iff.1 dy).1 (fun ho=>ho r hr ?_)).trans dy,rr⟩;rw [<- jb,hv];rfl
theorem dE.below {B:Nat} {W W':World} {F:Nat -> Si} (O:dE B W F) (hb:Below W.heap.size W W'):dE B W' F:=O.kept fun q hq _=>hb.block q hq
theorem dE.len {B:Nat} {W:World} {F:Nat -> Si} (O:dE B W F) {r:Nat} (hr:r < 32):(F r).L.length=(F r).n:=by
 have:=(O.own r hr).1;rw [vE] at this;omega
theorem dE.grow {B:Nat} {W:World} {F:Nat -> Si} (O:dE B W F) (hB:B <= W.heap.size) (k:Nat) (hk:k < 32) (e:Int) (ad:Addr) (h0:W.cell? (ad.add 0)=some (.int .i64 e)) (ty:TypeId) (cF:(F k).n < 17592186044414) :
  ∃ g cap2 w2,(Builtin.append_ #[23,23] ty #[.slice (F k).ao (F k).n (F k).cap,.slice (some ad) 1 1]).run Tryz.prog W = .ok (.slice (some ⟨g,0,none⟩) ((F k).n+1) cap2) w2 /\
   dE B w2 (eR F k ⟨some ⟨g,0,none⟩,(F k).n+1,cap2,(F k).L++[e]⟩) /\
   (∀ q,q < W.heap.size -> eM F q -> w2.heap[q]? = W.heap[q]? /\ eM (eR F k ⟨some ⟨g,0,none⟩,(F k).n+1,cap2,(F k).L++[e]⟩) q)/\W.heap.size <= w2.heap.size/\(∀ n0 w,n0 <= B -> Below n0 w W -> Below n0 w w2):=by
 obtain ⟨i0,Gu,dg,dn,ee⟩:=info_parts mG
 obtain ⟨v',w2,dJ,aM,az,_,gZ⟩:=run_append_own_at (P:=Tryz.prog) W B 23 ty 3 i0 (.int .i64 0) 1 8 Tryz.underlying23 Gu dg dn ee rfl (by decide) (.slice (F k).ao (F k).n (F k).cap) (F k).n (ics (F k).L) (O.own k hk) ad 1 1 [.int .i64 e] rfl
  (fun j u hj=>by
   match j,hj with
   | 0,hj=>cases hj;exact h0
   | j+1,hj=>simp at hj)
  (fun u hu=>(by simp at hu;subst hu;rfl)) (by unfold maxLen;omega) (by omega) hB
 rcases aM.2 with ⟨h0,fh⟩ | ⟨g,cap2,cur,hv,dN,dy,hnc,eV,hcsz,htake⟩
 ·omega
 ·subst hv
  rw [jb] at az gZ
  have pQ:mQ (F k)=some g∨g=W.heap.size:=by
   rcases gZ with h | h
   ·left;rw [<- h];rfl
   ·right;simp [Value.ownBlock] at h;exact h
  have ni:∀ q,q < W.heap.size -> eM F q -> eM (eR F k ⟨some ⟨g,0,none⟩,(F k).n+1,cap2,(F k).L++[e]⟩) q:=by
   intro q hq ho r hr;by_cases iz:r=k
   ·subst iz;rw [xp];intro h;have hg:g=q:=Option.some.inj h;rcases pQ with h2 | h2
    ·exact ho r hr (by rw [h2,hg])
    ·omega
   ·rw [qh _ _ _ _ iz];exact ho r hr
  refine ⟨g,cap2,w2,dJ,⟨fun r hr=>?_,fun r s hr hs hrs q hq=>?_⟩,fun q hq ho=>⟨az.block q hq (fun e=>ho k hk e.symm),ni q hq ho⟩,az.size,fun n0 w hn hb=>hb.grown az (by omega) (fun q hq=>by have:=(O.lt hk hq).1;omega)⟩
  ·by_cases iz:r=k
   ·subst iz;rw [xp]
    show w2.ownsRow B _ 1 (.slice (some ⟨g,0,none⟩) ((F r).n+1) cap2) ((F r).n+1) (ics ((F r).L++[e]))
    rw [yT,zdz];exact aM
   ·rw [qh _ _ _ _ iz];refine ⟨(O.own r hr).1,?_⟩;rcases (O.own r hr).2 with h0 | ⟨g2,cap3,cur2,hv,hbg2,hgg2,rr⟩
    ·exact Or.inl h0
    ·have mS:mQ (F r)=some g2:=by rw [<- jb,hv];rfl
     exact Or.inr ⟨g2,cap3,cur2,hv,hbg2,(az.block g2 (O.lt hr mS).2 (fun e=>O.apart r k hr hk iz g2 mS e.symm)).trans hgg2,rr⟩
  ·have key:∀ x,x < 32 -> x≠k -> mQ (F x)≠some g:=by
    intro x hx hxk h;rcases pQ with h2 | h2
    ·exact O.apart x k hx hk hxk g h h2
    ·have:=(O.lt hx h).2;omega
   by_cases iz:r=k
   ·subst iz;rw [xp] at hq;rw [qh _ _ _ _ (fun h=>hrs h.symm)];have hg:g=q:=Option.some.inj hq;rw [<- hg];exact key s hs (fun h=>hrs h.symm)
   ·rw [qh _ _ _ _ iz] at hq;by_cases gk:s=k
    ·subst gk;rw [xp];intro h;have hg:g=q:=Option.some.inj h;rw [<- hg] at hq;exact key r hr iz hq
    ·rw [qh _ _ _ _ gk];exact O.apart r s hr hs hrs q hq
theorem dE.append {B:Nat} {W:World} {F:Nat -> Si} (O:dE B W F) (hB:B <= W.heap.size) (k:Nat) (hk:k < 32) (e:Int) (C:Array Value) (hC:C=#[.int .i64 e]) (cF:(F k).n < 17592186044414)
  {ops:Array Oper} {rest:List Oper} {o:Oper} {a:Act} {Q:Exit -> Act -> World -> Prop} (hgd:o.guard=none) (s x:Operand) (ho:o.op = .call { callee:=.builtin .append,args:=#[s,x],argTypes:=#[23,23] })
  (ao:Option Addr) (n cap:Nat) (hf:(F k).ao=ao/\(F k).n=n/\(F k).cap=cap) (hs:a.eval s = .slice ao n cap) (hx:a.eval x = .slice (some ⟨W.heap.size,0,none⟩) 1 1)
  (hK:∀ (g cap2:Nat) (w2:World),dE B w2 (eR F k ⟨some ⟨g,0,none⟩,n+1,cap2,(F k).L++[e]⟩) -> (∀ q,q < W.heap.size -> eM F q -> w2.heap[q]? = W.heap[q]? /\ eM (eR F k ⟨some ⟨g,0,none⟩,n+1,cap2,(F k).L++[e]⟩) q) -> W.heap.size < w2.heap.size -> (∀ n0 w,n0 <= B -> Below n0 w W -> Below n0 w w2) -> wpList Tryz.prog ops Q rest (a.put o.dst (.slice (some ⟨g,0,none⟩) (n+1) cap2)) w2) :
  wpList Tryz.prog ops Q (o :: rest) a (W.alloc (.cells C 3)):=by
 subst hC;obtain ⟨rfl,rfl,rfl⟩:=hf;have hO:dE B (W.alloc (.cells (#[.int .i64 e]) 3)) F:=O.below (ze W _)
 have c:∀ t,(W.alloc (.cells (#[.int .i64 e]) 3)).cell? ((⟨W.heap.size,0,none⟩:Addr).add t)=(#[.int .i64 e]:Array Value)[t]?:=fun t=>by rw [Addr.add_lit,Nat.zero_add,World.cell?_alloc_new]
 obtain ⟨g,cap2,w2,dJ,h1,h2,h3,h4⟩:=hO.grow (by simp;omega) k hk e ⟨W.heap.size,0,none⟩ ((c 0).trans rfl) o.type cF;refine wpList_plain hgd fun K hK'=>?_;unfold Oper.wp execOp;simp only [ho,resolve,invoke,builtin,Sem.run_bind,Sem.run_pure,Result.andThen_ok,List.map_toArray,List.map_cons,List.map_nil,hs,hx,dJ];simp only [World.size_alloc] at h2 h3;refine hK' _ _ (hK g cap2 w2 h1 (fun q hq ho=>?_) (by omega) (fun n0 w hn hb=>h4 n0 w hn (hb.alloc (by omega) _)));have:=h2 q (by omega) ho;exact ⟨this.1.trans (Below.heap_alloc _ _ _ hq),this.2⟩
theorem dE.step {B:Nat} {W:World} {F:Nat -> Si} (O:dE B W F) (hB:B <= W.heap.size) (k:Nat) (hk:k < 32) (e:Int) (C:Array Value) (hC:C=#[.int .i64 e]) (cF:(F k).n < 17592186044414)
  {ops:Array Oper} {o:Oper} {a:Act} {K:Act -> World -> Prop} {Q:Exit -> Act -> World -> Prop} {E:Prop} (hgd:o.guard=none) (s x:Operand) (ho:o.op = .call { callee:=.builtin .append,args:=#[s,x],argTypes:=#[23,23] })
  (ao:Option Addr) (n cap:Nat) (hf:(F k).ao=ao/\(F k).n=n/\(F k).cap=cap) (hs:a.eval s = .slice ao n cap) (g0:Nat) (hg0:W.heap.size=g0) (hx:a.eval x = .slice (some ⟨g0,0,none⟩) 1 1)
  (hK:∀ (g cap2:Nat) (w2:World),dE B w2 (eR F k ⟨some ⟨g,0,none⟩,n+1,cap2,(F k).L++[e]⟩) -> (∀ q,q < W.heap.size -> eM F q -> w2.heap[q]? = W.heap[q]? /\ eM (eR F k ⟨some ⟨g,0,none⟩,n+1,cap2,(F k).L++[e]⟩) q) -> W.heap.size < w2.heap.size -> (∀ n0 w,n0 <= B -> Below n0 w W -> Below n0 w w2) -> K (a.put o.dst (.slice (some ⟨g,0,none⟩) (n+1) cap2)) w2) :
  if Region.wanted o (yielded ops a.tmps)=true then Oper.wp Tryz.prog o a (W.alloc (.cells C 3)).drew K Q else E:=by
 have hw:Region.wanted o (yielded ops a.tmps)=true:=by simp [Region.wanted,hgd]
 rw [if_pos hw];subst hC hg0;obtain ⟨rfl,rfl,rfl⟩:=hf;have hO:dE B (W.alloc (.cells (#[.int .i64 e]) 3)).drew F:=(O.below (ze W _)).below (zg _)
 have c:∀ t,(W.alloc (.cells (#[.int .i64 e]) 3)).drew.cell? ((⟨W.heap.size,0,none⟩:Addr).add t)=(#[.int .i64 e]:Array Value)[t]?:=fun t=>by
  rw [Addr.add_lit,Nat.zero_add]
  show (W.alloc _).cell? _=_
  rw [World.cell?_alloc_new]
 have hz:(W.alloc (.cells (#[.int .i64 e]) 3)).drew.heap.size=W.heap.size+1:=by show (W.alloc _).heap.size=_;simp
 obtain ⟨g,cap2,w2,dJ,h1,h2,h3,h4⟩:=hO.grow (by omega) k hk e ⟨W.heap.size,0,none⟩ ((c 0).trans rfl) o.type cF;unfold Oper.wp;simp [execOp,ho,resolve,invoke,builtin,hs,hx,dJ,Result.andThen];rw [hz] at h2 h3;refine hK g cap2 w2 h1 (fun q hq ho=>?_) (by omega) (fun n0 w hn hb=>h4 n0 w hn ((hb.alloc (by omega) _).trans ((zg _).mono (by simp;omega))));have:=h2 q (by omega) ho;exact ⟨this.1.trans (Below.heap_alloc _ _ _ hq),this.2⟩
end
section

theorem yh {acc:List Rn} {r:Rn} (h:form 1 acc) (hg:∀ i l,acc=i++[l] -> l.hi+2 <= r.lo) (h1:1 <= r.lo) (h2:r.lo <= r.hi) (h3:r.hi <= 1000000000):form 1 (acc++[r]):=by
 rcases List.eq_nil_or_concat acc with e | ⟨i,l,e⟩
 ·subst e;exact ⟨h1,h2,h3,trivial⟩
 ·rw [List.concat_eq_append] at e;subst e;exact kR h (hg i l rfl) h2 h3
structure ez (x y x' y' acc:List Rn):Prop where
 frm:form 1 acc
 mm:∀ n,(mem acc n∨(mem x' n/\mem y' n))↔(mem x n/\mem y n)
 gap:∀ i l,acc=i++[l] -> ∀ n,mem x' n -> mem y' n -> l.hi+2 <= n
 fx:form 1 x'
 fy:form 1 y'
theorem ez.start {x y:List Rn} (hx:form 1 x) (hy:form 1 y):ez x y x y []:=
 ⟨trivial,fun n=>⟨fun h=>h.elim (fun e=>absurd e (qV n)) id,Or.inr⟩,(fun i l h=>by cases i <;> cases h),hx,hy⟩
def met (acc:List Rn) (a b:Rn):List Rn:=if max a.lo b.lo <= min a.hi b.hi then acc++[⟨max a.lo b.lo,min a.hi b.hi⟩] else acc
theorem zeD (acc:List Rn) (a b:Rn) (n:Int):mem (met acc a b) n↔mem acc n∨(mem [a] n/\mem [b] n):=by
 unfold met;rw [qu,qu]
 split
 ·rw [mem_append,qu];simp only;constructor
  ·rintro (e | e)
   ·exact Or.inl e
   ·exact Or.inr ⟨⟨e.1,e.2.1,by omega,by omega⟩,⟨e.1,e.2.1,by omega,by omega⟩⟩
  ·rintro (e | ⟨e,f⟩)
   ·exact Or.inl e
   ·exact Or.inr ⟨e.1,e.2.1,by omega,by omega⟩
 ·constructor
  ·exact Or.inl
  ·rintro (e | ⟨e,f⟩)
   ·exact e
   ·omega
theorem ez.form_met {x y xs ys acc:List Rn} {a b:Rn} (h:ez x y (a :: xs) (b :: ys) acc):form 1 (met acc a b):=by
 unfold met;have fa:=h.fx;have fb:=h.fy
 split
 ·refine yh h.frm (fun i l e=>?_) ?_ ?_ ?_
  ·refine h.gap i l e (max a.lo b.lo) ((mem_cons _ _ _).2 (Or.inl ⟨?_,?_,?_,?_⟩)) ((mem_cons _ _ _).2 (Or.inl ⟨?_,?_,?_,?_⟩)) <;> (have:=fa.1;have:=fa.2.1;have:=fa.2.2.1;have:=fb.1;have:=fb.2.1;have:=fb.2.2.1;omega)
  ·have:=fa.1;simp only;omega
  ·simp only;assumption
  ·have:=fa.2.2.1;simp only;omega
 ·exact h.frm
theorem zeE {x y xs ys acc i:List Rn} {a b l:Rn} (h:ez x y (a :: xs) (b :: ys) acc) (e:met acc a b=i++[l]):(∀ n,mem (a :: xs) n -> mem (b :: ys) n -> l.hi+2 <= n)∨l.hi=min a.hi b.hi:=by
 unfold met at e
 split at e
 ·right;have:=List.append_inj_right' e rfl;simp at this;rw [<- this]
 ·exact Or.inl (h.gap i l e)
theorem ez.left {x y xs ys acc:List Rn} {a b:Rn} (h:ez x y (a :: xs) (b :: ys) acc) (ak:a.hi < b.hi):ez x y xs (b :: ys) (met acc a b):=by
 have fa:=h.fx;have fb:=h.fy;refine ⟨h.form_met,fun n=>?_,fun i l e n hx hy=>?_,jQ (by have:=fa.1;have:=fa.2.1;omega) fa.2.2.2,fb⟩
 ·rw [<- h.mm n,zeD];constructor
  ·rintro ((e | ⟨e,f⟩) | ⟨e,f⟩)
   ·exact Or.inl e
   ·exact Or.inr ⟨(mem_cons _ _ _).2 (Or.inl ((qu _ _).1 e)),(mem_cons _ _ _).2 (Or.inl ((qu _ _).1 f))⟩
   ·exact Or.inr ⟨(mem_cons _ _ _).2 (Or.inr e),f⟩
  ·rintro (e | ⟨e,f⟩)
   ·exact Or.inl (Or.inl e)
   ·rcases (mem_cons _ _ _).1 e with e | e
    ·rcases (mem_cons _ _ _).1 f with f | f
     ·exact Or.inl (Or.inr ⟨(qu _ _).2 e,(qu _ _).2 f⟩)
     ·have:=jj fb.2.2.2 f;omega
    ·exact Or.inr ⟨e,f⟩
 ·rcases zeE h e with g | g
  ·exact g n ((mem_cons _ _ _).2 (Or.inr hx)) hy
  ·have:=jj fa.2.2.2 hx;omega
theorem ez.right {x y xs ys acc:List Rn} {a b:Rn} (h:ez x y (a :: xs) (b :: ys) acc) (ak:¬ a.hi < b.hi):ez x y (a :: xs) ys (met acc a b):=by
 have fa:=h.fx;have fb:=h.fy;refine ⟨h.form_met,fun n=>?_,fun i l e n hx hy=>?_,fa,jQ (by have:=fb.1;have:=fb.2.1;omega) fb.2.2.2⟩
 ·rw [<- h.mm n,zeD];constructor
  ·rintro ((e | ⟨e,f⟩) | ⟨e,f⟩)
   ·exact Or.inl e
   ·exact Or.inr ⟨(mem_cons _ _ _).2 (Or.inl ((qu _ _).1 e)),(mem_cons _ _ _).2 (Or.inl ((qu _ _).1 f))⟩
   ·exact Or.inr ⟨e,(mem_cons _ _ _).2 (Or.inr f)⟩
  ·rintro (e | ⟨e,f⟩)
   ·exact Or.inl (Or.inl e)
   ·rcases (mem_cons _ _ _).1 f with f | f
    ·rcases (mem_cons _ _ _).1 e with e | e
     ·exact Or.inl (Or.inr ⟨(qu _ _).2 e,(qu _ _).2 f⟩)
     ·have:=jj fa.2.2.2 e;omega
    ·exact Or.inr ⟨e,f⟩
 ·rcases zeE h e with g | g
  ·exact g n hx ((mem_cons _ _ _).2 (Or.inr hy))
  ·have:=jj fb.2.2.2 hy;omega
def dV (a b R:List Rn):Prop:=form 1 R/\∀ n,mem R n↔mem a n/\mem b n
theorem ez.done {x y x' y' acc a b:List Rn} (h:ez x y x' y' acc) (he:x'=[]∨y'=[]) (hx:aT a x) (hy:aT b y):dV a b acc:=by
 refine ⟨h.frm,fun n=>?_⟩;rw [<- hx.2 n,<- hy.2 n,<- h.mm n];constructor
 ·exact Or.inl
 ·rintro (e | ⟨e,f⟩)
  ·exact e
  ·rcases he with he | he
   ·subst he;exact absurd e (qV n)
   ·subst he;exact absurd f (qV n)
structure gu (p q acc:List Rn) (next:Int):Prop where
 frm:form 1 acc
 mm:∀ n,mem acc n↔(1 <= n/\n <= 1000000000/\n < next/\¬ mem p n)
 gap:∀ i l,acc=i++[l] -> l.hi+2 <= next
 lo:1 <= next
 hi:next <= 1000000001
 pm:∀ n,mem p n -> n < next
 rest:form next q
theorem gu.start {R:List Rn} (h:form 1 R):gu [] R [] 1:=
 ⟨trivial,fun n=>⟨fun e=>absurd e (qV n),fun e=>by omega⟩,(fun i l h=>by cases i <;> cases h),Int.le_refl _,by omega,fun n e=>absurd e (qV n),h⟩
def gE (acc:List Rn) (next lo:Int):List Rn:=if next < lo then acc++[⟨next,lo - 1⟩] else acc
theorem zcC (acc:List Rn) (next lo n:Int) (h1:1 <= next) (h3:lo <= 1000000001):mem (gE acc next lo) n↔mem acc n∨(next <= n/\n < lo):=by
 unfold gE
 split
 ·rw [mem_append,qu];simp only;constructor
  ·rintro (e | e)
   ·exact Or.inl e
   ·exact Or.inr (by omega)
  ·rintro (e | e)
   ·exact Or.inl e
   ·exact Or.inr (by omega)
 ·exact ⟨Or.inl,fun e=>e.elim id (fun e=>by omega)⟩
theorem za6 {p q acc:List Rn} {next lo:Int} (h:gu p q acc next) (h3:lo <= 1000000001):form 1 (gE acc next lo):=by
 unfold gE
 split
 ·refine yh h.frm (fun i l e=>h.gap i l e) h.lo ?_ ?_ <;> (simp only;omega)
 ·exact h.frm
theorem gu.step {p q acc:List Rn} {next:Int} {r:Rn} (h:gu p (r :: q) acc next):gu (p++[r]) q (gE acc next r.lo) (r.hi+1):=by
 have fr:=h.rest;have f1:=fr.1;have f2:=fr.2.1;have f3:=fr.2.2.1;have sv:=h.lo;refine ⟨za6 h (by omega),fun n=>?_,fun i l e=>?_,by omega,by omega,fun n hn=>?_,jQ (by omega) fr.2.2.2⟩
 ·rw [zcC _ _ _ _ sv (by omega),h.mm n,mem_append,qu];constructor
  ·rintro (e | e)
   ·exact ⟨e.1,e.2.1,by omega,fun c=>c.elim e.2.2.2 (fun c=>by omega)⟩
   ·exact ⟨by omega,by omega,by omega,fun c=>c.elim (fun c=>by have:=h.pm n c;omega) (fun c=>by omega)⟩
  ·rintro ⟨e1,e2,e3,e4⟩;by_cases c:n < next
   ·exact Or.inl ⟨e1,e2,c,fun d=>e4 (Or.inl d)⟩
   ·exact Or.inr ⟨by omega,Classical.byContradiction fun d=>e4 (Or.inr ⟨e1,e2,by omega,by omega⟩)⟩
 ·unfold gE at e
  split at e
  ·have:=List.append_inj_right' e rfl;simp at this;rw [<- this];simp only;omega
  ·have:=h.gap i l e;omega
 ·rw [mem_append,qu] at hn;rcases hn with e | e
  ·have:=h.pm n e;omega
  ·omega
def mH (a O:List Rn):Prop:=form 1 O/\∀ n,mem O n↔(1 <= n/\n <= 1000000000/\¬ mem a n)
theorem gu.done {R acc a:List Rn} {next:Int} (h:gu R [] acc next) (hR:aT a R):mH a (gE acc next 1000000001):=by
 refine ⟨za6 h (Int.le_refl _),fun n=>?_⟩;rw [zcC _ _ _ _ h.lo (Int.le_refl _),h.mm n,<- hR.2 n];constructor
 ·rintro (e | e)
  ·exact ⟨e.1,e.2.1,e.2.2.2⟩
  ·exact ⟨by have:=h.lo;omega,by omega,fun c=>by have:=h.pm n c;omega⟩
 ·rintro ⟨e1,e2,e3⟩;by_cases c:n < next
  ·exact Or.inl ⟨e1,e2,c,e3⟩
  ·exact Or.inr ⟨by omega,by omega⟩
def cH (a b R:List Rn):Prop:=form 1 R/\∀ n,mem R n↔mem a n/\¬ mem b n
theorem zgg {a b O R:List Rn} (hO:mH b O) (h:dV a O R):cH a b R:=
 ⟨h.1,fun n=>by rw [h.2 n,hO.2 n];exact ⟨fun e=>⟨e.1,e.2.2.2⟩,fun e=>⟨e.1,e.1.1,e.1.2.1,e.2⟩⟩⟩
theorem zdD {a:List Rn} {l:Int} (hl:1 <= l) (h:form l a) (he:∀ n,¬ mem a n):a=[]:=by
 cases a with
 | nil=>rfl
 | cons r a=>exact absurd ((mem_cons r a r.lo).2 (Or.inl ⟨by have:=h.1;omega,by have:=h.2;omega,Int.le_refl _,h.2.1⟩)) (he _)
def sz:List Rn -> Int
 | []=>0
 | r :: a=>(r.hi - r.lo+1)+sz a
theorem zbz:∀ {a:List Rn} {l:Int},form l a -> 0 <= sz a/\(a=[]∨sz a+l <= 1000000001)/\(sz a=0 -> a=[])
 | [],_,_=>⟨Int.le_refl _,Or.inl rfl,fun _=>rfl⟩
 | r :: a,l,h=>by
  have h1:=h.1;have h2:=h.2.1;have h3:=h.2.2.1;obtain ⟨i1,i2,i3⟩:=zbz h.2.2.2;refine ⟨by simp only [sz];omega,Or.inr ?_,fun e=>by simp only [sz] at e;omega⟩;simp only [sz];rcases i2 with e | e
  ·subst e;simp only [sz];omega
  ·omega
theorem zaM (a b:List Rn):sz (a++b)=sz a+sz b:=by
 induction a with
 | nil=>simp [sz]
 | cons r a ih=>simp only [List.cons_append,sz,ih];omega
theorem bs:∀ (a:List Rn) (l:Int) (k:Nat),form l a -> 0 <= sz (a.take k)/\sz (a.take k) <= sz a:=by
 intro a
 induction a with
 | nil=>intro l k _;simp [sz]
 | cons r a ih =>
  intro l k h
  cases k with
  | zero=>have:=(zbz h).1;simp [sz] at *;exact this
  | succ k =>
   have:=ih _ k h.2.2.2;have:=h.2.1;simp only [List.take_succ_cons,sz];omega
end
section

def tn:List Rn -> List Int
 | []=>[]
 | r :: t=>r.lo :: (r.hi+1) :: tn t
theorem zhN (R:List Rn) (r:Rn):tn (R++[r])=tn R++[r.lo,r.hi+1]:=by
 induction R with
 | nil=>rfl
 | cons a t ih=>simp [tn,ih]
theorem wG (R:List Rn):(tn R).length=2 * R.length:=by
 induction R with
 | nil=>rfl
 | cons a t ih=>simp [tn,ih];omega
def cnt (L:List Int) (n:Int):Nat:=L.countP (fun x=>decide (x <= n))
theorem wo {L M:List Int} (h:L.Perm M) (n:Int):cnt L n=cnt M n:=h.countP_eq _
theorem xv (L M:List Int) (n:Int):cnt (L++M) n=cnt L n+cnt M n:=by unfold cnt;exact List.countP_append
theorem zat (x n:Int):cnt [x] n=if x <= n then 1 else 0:=by unfold cnt;by_cases h:x <= n <;> simp [h]
theorem ym {L:List Int} {n:Int} (h:∀ x,x∈L -> x <= n):cnt L n=L.length:=by
 unfold cnt;exact List.countP_eq_length.2 (fun x hx=>decide_eq_true (h x hx))
theorem zgM {L:List Int} {n:Int} (h:∀ x,x∈L -> n < x):cnt L n=0:=by
 unfold cnt;rw [List.countP_eq_zero];intro x hx;have:=h x hx;simp;omega
theorem zfc (L:List Int) (n:Int):cnt L n <= L.length:=List.countP_le_length
theorem zas:∀ (B:List Rn),(∀ r,r∈B -> r.lo <= r.hi) -> ∀ n,cnt (B.map (fun r=>r.hi+1)) n <= cnt (B.map (fun r=>r.lo)) (n - 1)/\cnt (B.map (fun r=>r.hi+1)) n <= cnt (B.map (fun r=>r.lo)) n/\(cnt (B.map (fun r=>r.hi+1)) n < cnt (B.map (fun r=>r.lo)) n↔∃ r,r∈B/\r.lo <= n/\n <= r.hi)
 | [],_,n=>⟨Nat.le_refl _,Nat.le_refl _,⟨fun h=>by simp [cnt] at h,fun ⟨r,h,_⟩=>by cases h⟩⟩
 | r :: t,h,n=>by
  obtain ⟨h1,h2,h3⟩:=zas t (fun x hx=>h x (List.mem_cons_of_mem _ hx)) n;have hr:=h r List.mem_cons_self
  have e:∀ (f:Rn -> Int) m,cnt ((r :: t).map f) m=(if f r <= m then 1 else 0)+cnt (t.map f) m:=fun f m=>by
   have:(r :: t).map f=[f r]++t.map f:=rfl;rw [this,xv,zat]
  rw [e,e,e]
  have key:(∃ x,x∈r :: t/\x.lo <= n/\n <= x.hi)↔(r.lo <= n/\n <= r.hi)∨∃ x,x∈t/\x.lo <= n/\n <= x.hi:=by simp
  rw [key,<- h3];by_cases a1:r.hi+1 <= n
  ·rw [if_pos a1,if_pos (by omega),if_pos (by omega)];refine ⟨by omega,by omega,⟨fun g=>Or.inr (by omega),fun g=>?_⟩⟩;rcases g with g | g
   ·omega
   ·omega
  ·rw [if_neg a1];by_cases a2:r.lo <= n
   ·rw [if_pos a2];refine ⟨?_,by omega,⟨fun _=>Or.inl ⟨a2,by omega⟩,fun _=>by omega⟩⟩
    split <;> omega
   ·rw [if_neg a2];refine ⟨?_,by omega,⟨fun g=>Or.inr (by omega),fun g=>?_⟩⟩
    ·split <;> omega
    ·rcases g with g | g
     ·omega
     ·omega
def inR (R:List Rn) (n:Int):Prop:=∃ r,r∈R/\r.lo <= n/\n <= r.hi
theorem zgq (R:List Rn) (r:Rn) (n:Int):inR (R++[r]) n↔inR R n∨(r.lo <= n/\n <= r.hi):=by
 unfold inR;constructor
 ·rintro ⟨x,hx,h⟩;rcases List.mem_append.1 hx with g | g
  ·exact Or.inl ⟨x,g,h⟩
  ·obtain rfl:=List.mem_singleton.1 g;exact Or.inr h
 ·rintro (⟨x,hx,h⟩ | h)
  ·exact ⟨x,List.mem_append_left _ hx,h⟩
  ·exact ⟨r,List.mem_append_right _ (List.mem_singleton.2 rfl),h⟩
theorem zb5:∀ {R:List Rn} {l:Int},form l R -> ∀ r,r∈R -> l <= r.lo/\r.lo <= r.hi/\r.hi <= 1000000000
 | [],_,_,r,h=>by cases h
 | x :: t,l,h,r,hr=>by
  rcases List.mem_cons.1 hr with e | e
  ·subst e;exact ⟨h.1,h.2.1,h.2.2.1⟩
  ·have:=zb5 h.2.2.2 r e;have h1:=h.1;have h2:=h.2.1;omega
theorem zcT:∀ {q:List Rn} {l:Int} {r x:Rn},form l (q++[r]) -> x∈q++[r] -> x.hi <= r.hi
 | [],_,r,x,_,hx=>by
  obtain rfl:=List.mem_singleton.1 hx;exact Int.le_refl _
 | y :: t,l,r,x,h,hx=>by
  have hl:=kS h.2.2.2;rcases List.mem_cons.1 hx with e | e
  ·subst e;omega
  ·exact zcT h.2.2.2 e
theorem zh2 {R:List Rn} (h:form 1 R) (n:Int):mem R n↔inR R n:=by
 constructor
 ·rintro ⟨_,_,h⟩;exact h
 ·rintro ⟨r,hr,h1,h2⟩;have:=zb5 h r hr;exact ⟨by omega,by omega,r,hr,h1,h2⟩
structure SwG (I O:List Int):Prop where
 si:I.Pairwise (· <= ·)
 so:O.Pairwise (· <= ·)
 len:I.length=O.length
 c:∀ n,cnt O n <= cnt I (n - 1)
 lo:∀ x,x∈I -> 1 <= x
 hi:∀ x,x∈O -> x <= 1000000001
structure Sw (I O:List Int) (i j:Nat) (R:List Rn) (s:Option Int):Prop where
 hi:i <= I.length
 hj:j <= O.length
 ij:j <= i
 fm:form 1 R
 st:s=none↔i=j
 cl:s=none -> (∀ n,cnt (O.take j) n < cnt (I.take i) n↔inR R n)/\∀ x,x∈I.drop i -> ∀ q r,R=q++[r] -> r.hi+2 <= x
 op:∀ a,s=some a -> (∀ n,cnt (O.take j) n < cnt (I.take i) n↔inR R n∨a <= n)/\(∀ q r,R=q++[r] -> r.hi+2 <= a)/\1 <= a/\a∈I.take i
 le:∀ x,x∈I.take i++O.take j -> ∀ y,y∈I.drop i++O.drop j -> x <= y
theorem Sw.start (I O:List Int):Sw I O 0 0 [] none:=by
 refine ⟨Nat.zero_le _,Nat.zero_le _,Nat.le_refl _,trivial,⟨fun _=>rfl,fun _=>rfl⟩,fun _=>⟨fun n=>?_,fun x _ q r h=>by simp at h⟩,fun a h=>(by cases h),fun x hx=>by simp at hx⟩;simp [cnt,inR]
theorem j1 (L:List Int) (i:Nat) (x:Int) (hx:L[i]? = some x):L.take (i+1)=L.take i++[x]/\L.drop i=x :: L.drop (i+1):=by
 obtain ⟨h,e⟩:=List.getElem?_eq_some_iff.1 hx;exact ⟨by rw [List.take_succ_eq_append_getElem h,e],by rw [List.drop_eq_getElem_cons h,e]⟩
theorem qx {L:List Int} (h:L.Pairwise (· <= ·)) {i:Nat} {x:Int} (hx:L[i]? = some x):∀ y,y∈L.drop i -> x <= y:=by
 intro y hy;have hd:=(j1 L i x hx).2;have hp:(L.drop i).Pairwise (· <= ·):=h.sublist (List.drop_sublist _ _);rw [hd] at hp hy;rcases List.mem_cons.1 hy with e | e
 ·omega
 ·exact (List.pairwise_cons.1 hp).1 y e
theorem Sw.inn {I O:List Int} {i j:Nat} {R:List Rn} {s:Option Int} (G:SwG I O) (S:Sw I O i j R s) {x:Int} (hx:I[i]? = some x) (hn:∀ y,O[j]? = some y -> x <= y):Sw I O (i+1) j R (some (s.getD x)):=by
 obtain ⟨t1,t2⟩:=j1 I i x hx;have ph:=(List.getElem?_eq_some_iff.1 hx).1
 have DP:x∈I.drop i:=by rw [t2];exact List.mem_cons_self
 have aR:∀ z,z∈I.take i++O.take j -> z <= x:=fun z hz=>S.le z hz x (List.mem_append_left _ DP)
 have e1:∀ n,x <= n -> cnt (O.take j) n=j:=fun n h=>by
  rw [ym (fun z hz=>Int.le_trans (aR z (List.mem_append_right _ hz)) h),List.length_take];have:=S.hj;omega
 have e2:∀ n,x <= n -> cnt (I.take i) n=i:=fun n h=>by
  rw [ym (fun z hz=>Int.le_trans (aR z (List.mem_append_left _ hz)) h),List.length_take];omega
 have hP:∀ n,(cnt (O.take j) n < cnt (I.take (i+1)) n↔(cnt (O.take j) n < cnt (I.take i) n∨x <= n)):=fun n=>by
  rw [t1,xv,zat];by_cases h:x <= n
  ·rw [if_pos h,e1 n h,e2 n h];have:=S.ij;exact ⟨fun _=>Or.inr h,fun _=>by omega⟩
  ·rw [if_neg h,Nat.add_zero];exact ⟨fun g=>Or.inl g,fun g=>g.resolve_right h⟩
 have m8:x∈I:=List.mem_of_getElem? hx;refine ⟨by omega,S.hj,by have:=S.ij;omega,S.fm,⟨(fun h=>by cases h),fun h=>by have:=S.ij;omega⟩,fun h=>(by cases h),fun a ha=>?_,fun z hz y hy=>?_⟩
 ·cases s with
  | none =>
   have IM:x=a:=by simpa using ha
   subst IM;obtain ⟨c1,c2⟩:=S.cl rfl;exact ⟨fun n=>by rw [hP,c1],fun q r h=>c2 x DP q r h,G.lo x m8,by rw [t1];exact List.mem_append_right _ (List.mem_singleton.2 rfl)⟩
  | some b =>
   have IM:b=a:=by simpa using ha
   subst IM;obtain ⟨c1,c2,c3,c4⟩:=S.op b rfl;refine ⟨fun n=>?_,c2,c3,by rw [t1];exact List.mem_append_left _ c4⟩;rw [hP,c1];have hb:=aR b (List.mem_append_left _ c4);constructor
   ·rintro ((g | g) | g)
    ·exact Or.inl g
    ·exact Or.inr g
    ·exact Or.inr (by omega)
   ·exact fun g=>Or.inl g
 ·have p9:x <= y:=by
   rcases List.mem_append.1 hy with g | g
   ·exact qx G.si hx y (by rw [t2];exact List.mem_cons_of_mem _ g)
   ·cases ho:O[j]? with
    | none =>
     rw [List.drop_of_length_le (by simpa using ho)] at g
     cases g
    | some o=>exact Int.le_trans (hn o ho) (qx G.so ho y g)
  rw [t1] at hz;rcases List.mem_append.1 hz with g | g
  ·rcases List.mem_append.1 g with g | g
   ·exact Int.le_trans (aR z (List.mem_append_left _ g)) p9
   ·obtain rfl:=List.mem_singleton.1 g;exact p9
  ·exact Int.le_trans (aR z (List.mem_append_right _ g)) p9
theorem Sw.deep {I O:List Int} {i j:Nat} {R:List Rn} {s:Option Int} (G:SwG I O) (S:Sw I O i j R s) {y:Int} (hy:O[j]? = some y) (hn:∀ x,I[i]? = some x -> y < x):j < i/\cnt I (y - 1) <= cnt (I.take i) (y - 1)/\j+1 <= cnt I (y - 1):=by
 obtain ⟨t1,t2⟩:=j1 O j y hy;have gt:=(List.getElem?_eq_some_iff.1 hy).1
 have h1:j+1 <= cnt O y:=by
  have e:cnt (O.take (j+1)) y=j+1:=by
   rw [ym (fun z hz=>?_),List.length_take]
   ·omega
   ·rw [t1] at hz;rcases List.mem_append.1 hz with g | g
    ·exact S.le z (List.mem_append_right _ g) y (List.mem_append_right _ (by rw [t2];exact List.mem_cons_self))
    ·obtain rfl:=List.mem_singleton.1 g;exact Int.le_refl _
  have e2:cnt O y=cnt (O.take (j+1)) y+cnt (O.drop (j+1)) y:=by rw [<- xv,List.take_append_drop]
  omega
 have h2:=G.c y
 have h3:cnt I (y - 1)=cnt (I.take i) (y - 1):=by
  have e2:cnt I (y - 1)=cnt (I.take i) (y - 1)+cnt (I.drop i) (y - 1):=by rw [<- xv,List.take_append_drop]
  have e3:cnt (I.drop i) (y - 1)=0:=by
   refine zgM (fun z hz=>?_)
   cases hi:I[i]? with
   | none =>
    rw [List.drop_of_length_le (by simpa using hi)] at hz
    cases hz
   | some x =>
    have h4:=hn x hi;have h5:=qx G.si hi z hz;omega
  omega
 have h4:=zfc (I.take i) (y - 1);rw [List.length_take] at h4;omega
theorem Sw.out {I O:List Int} {i j:Nat} {R:List Rn} {a:Int} (G:SwG I O) (S:Sw I O i j R (some a)) {y:Int} (hy:O[j]? = some y) (hn:∀ x,I[i]? = some x -> y < x) :
  (i≠j+1 -> Sw I O i (j+1) R (some a))/\(i=j+1 -> a < y/\Sw I O i (j+1) (R++[⟨a,y - 1⟩]) none):=by
 obtain ⟨t1,t2⟩:=j1 O j y hy;have gt:=(List.getElem?_eq_some_iff.1 hy).1;obtain ⟨d1,d2,d3⟩:=S.deep G hy hn;obtain ⟨c1,c2,c3,c4⟩:=S.op a rfl
 have E0:y∈O.drop j:=by rw [t2];exact List.mem_cons_self
 have aR:∀ z,z∈I.take i++O.take j -> z <= y:=fun z hz=>S.le z hz y (List.mem_append_right _ E0)
 have e1:∀ n,y <= n -> cnt (O.take j) n=j:=fun n h=>by
  rw [ym (fun z hz=>Int.le_trans (aR z (List.mem_append_right _ hz)) h),List.length_take];omega
 have e2:∀ n,y <= n -> cnt (I.take i) n=i:=fun n h=>by
  rw [ym (fun z hz=>Int.le_trans (aR z (List.mem_append_left _ hz)) h),List.length_take];have:=S.hi;omega
 have hP:∀ n,(cnt (O.take (j+1)) n < cnt (I.take i) n↔if y <= n then j+1 < i else cnt (O.take j) n < cnt (I.take i) n):=fun n=>by
  rw [t1,xv,zat];by_cases h:y <= n
  ·rw [if_pos h,if_pos h,e1 n h,e2 n h]
  ·rw [if_neg h,if_neg h,Nat.add_zero]
 have up:∀ x,x∈I.drop i -> y < x:=fun x hx=>by
  cases hi:I[i]? with
  | none=>rw [List.drop_of_length_le (by simpa using hi)] at hx;cases hx
  | some z=>have h4:=hn z hi;have h5:=qx G.si hi x hx;omega
 have ip:∀ z,z∈I.take i++O.take (j+1) -> ∀ u,u∈I.drop i++O.drop (j+1) -> z <= u:=fun z hz u hu=>by
  have Gx:y <= u:=by
   rcases List.mem_append.1 hu with g | g
   ·have:=up u g;omega
   ·exact qx G.so hy u (by rw [t2];exact List.mem_cons_of_mem _ g)
  rw [t1] at hz;rcases List.mem_append.1 hz with g | g
  ·exact Int.le_trans (aR z (List.mem_append_left _ g)) Gx
  ·rcases List.mem_append.1 g with g | g
   ·exact Int.le_trans (aR z (List.mem_append_right _ g)) Gx
   ·obtain rfl:=List.mem_singleton.1 g;exact Gx
 have NX:=aR a (List.mem_append_left _ c4);refine ⟨fun ch=>?_,fun he=>?_⟩
 ·refine ⟨S.hi,by omega,by omega,S.fm,⟨(fun h=>by cases h),fun h=>by omega⟩,fun h=>(by cases h),fun b hb=>?_,ip⟩;obtain rfl:=Option.some.inj hb;refine ⟨fun n=>?_,c2,c3,c4⟩;rw [hP];by_cases h:y <= n
  ·rw [if_pos h];exact ⟨fun _=>Or.inr (by omega),fun _=>by omega⟩
  ·rw [if_neg h,c1]
 ·have ak:a < y:=by
   by_cases h:a=y
   ·exfalso
    have h5:cnt (I.take i) (y - 1) < i:=by
     obtain ⟨k,hk,e⟩:=List.getElem_of_mem c4
     have hs:I.take i=(I.take i).take k++((I.take i)[k] :: (I.take i).drop (k+1)):=by
      rw [<- List.drop_eq_getElem_cons hk,List.take_append_drop]
     have h6:cnt (I.take i) (y - 1)=cnt ((I.take i).take k) (y - 1)+(cnt [(I.take i)[k]] (y - 1)+cnt ((I.take i).drop (k+1)) (y - 1)):=by
      conv=>lhs;rw [hs]
      rw [xv];congr 1;rw [<- xv];rfl
     rw [zat,e,if_neg (by omega)] at h6;have h7:=zfc ((I.take i).take k) (y - 1);have h8:=zfc ((I.take i).drop (k+1)) (y - 1);simp only [List.length_take,List.length_drop] at h7 h8 hk;omega
    omega
   ·omega
  have NM:=G.hi y (List.mem_of_getElem? hy);refine ⟨ak,S.hi,by omega,by omega,?_,⟨fun _=>he,fun _=>rfl⟩,fun _=>⟨fun n=>?_,fun x hx q r hq=>?_⟩,fun b hb=>(by cases hb),ip⟩
  ·exact yh S.fm (fun q l h=>c2 q l h) c3 (by show a <= y - 1;omega) (by show y - 1 <= _;omega)
  ·rw [hP,zgq];by_cases h:y <= n
   ·rw [if_pos h];constructor
    ·intro g;omega
    ·rintro (⟨r,hr,g1,g2⟩ | g)
     ·exfalso;rcases List.eq_nil_or_concat R with e | ⟨q,l,e⟩
      ·subst e;cases hr
      ·rw [List.concat_eq_append] at e;have g3:=c2 q l e
       have g4:r.hi <= l.hi:=by rw [e] at hr;have hf:=S.fm;rw [e] at hf;exact zcT hf hr
       omega
     ·simp only at g;omega
   ·rw [if_neg h,c1];constructor
    ·rintro (g | g)
     ·exact Or.inl g
     ·exact Or.inr ⟨g,by show n <= y - 1;omega⟩
    ·rintro (g | g)
     ·exact Or.inl g
     ·exact Or.inr g.1
  ·have:=up x hx;have e:=(List.append_inj' hq rfl).2;simp only [List.cons.injEq,and_true] at e;subst e
   show y - 1+2 <= x
   omega
theorem ziM {B:List Rn} {I O:List Int} (hB:∀ r,r∈B -> 1 <= r.lo/\r.lo <= r.hi/\r.hi <= 1000000000) (pI:I.Perm (B.map (fun r=>r.lo))) (pO:O.Perm (B.map (fun r=>r.hi+1))) (si:I.Pairwise (· <= ·)) (so:O.Pairwise (· <= ·)):SwG I O:=by
 refine ⟨si,so,by rw [pI.length_eq,pO.length_eq];simp,fun n=>?_,fun x hx=>?_,fun x hx=>?_⟩
 ·rw [wo pI,wo pO];exact (zas B (fun r hr=>(hB r hr).2.1) n).1
 ·obtain ⟨r,hr,rfl⟩:=List.mem_map.1 (pI.mem_iff.1 hx);exact (hB r hr).1
 ·obtain ⟨r,hr,rfl⟩:=List.mem_map.1 (pO.mem_iff.1 hx);have:=(hB r hr).2.2;omega
theorem Sw.done {A:List Rn} {I O:List Int} {R:List Rn} {s:Option Int} {N:Nat} (pI:I.Perm ((aC A).map (fun r=>r.lo))) (pO:O.Perm ((aC A).map (fun r=>r.hi+1))) (S:Sw I O N N R s) (hI:I.length=N) (hO:O.length=N):s=none/\aT A R:=by
 have hs:s=none:=S.st.2 rfl;refine ⟨hs,S.fm,fun n=>?_⟩;rw [zh2 S.fm,<- (S.cl hs).1 n,List.take_of_length_le (by omega),List.take_of_length_le (by omega),wo pI,wo pO,(zas (aC A) (fun r hr=>(ws A r hr).2.1) n).2.2];rw [<- yt A n];constructor
 ·rintro ⟨r,hr,h1,h2⟩;have:=ws A r hr;exact ⟨by omega,by omega,r,hr,h1,h2⟩
 ·rintro ⟨_,_,h⟩;exact h
end
section

structure MI (A B acc:List Int) (i j:Nat):Prop where
 p:acc.Perm (A.take i++B.take j)
 s:acc.Pairwise (· <= ·)
 l:∀ x,x∈acc -> ∀ y,y∈A.drop i++B.drop j -> x <= y
theorem MI.start (A B:List Int):MI A B [] 0 0:=⟨by simp,List.Pairwise.nil,fun x hx=>by cases hx⟩
theorem zem {acc:List Int} {x:Int} (h:acc.Pairwise (· <= ·)) (hx:∀ y,y∈acc -> y <= x):(acc++[x]).Pairwise (· <= ·):=
 List.pairwise_append.2 ⟨h,List.pairwise_singleton _ _,fun a ha b hb=>by obtain rfl:=List.mem_singleton.1 hb;exact hx a ha⟩
theorem MI.left {A B acc:List Int} {i j:Nat} (M:MI A B acc i j) (sA:A.Pairwise (· <= ·)) (sB:B.Pairwise (· <= ·)) {x:Int} (hx:A[i]? = some x) (h:∀ y,B[j]? = some y -> x <= y):MI A B (acc++[x]) (i+1) j:=by
 obtain ⟨t1,t2⟩:=j1 A i x hx;have DP:x∈A.drop i++B.drop j:=List.mem_append_left _ (by rw [t2];exact List.mem_cons_self)
 have ip:∀ y,y∈A.drop (i+1)++B.drop j -> x <= y:=fun y hy=>by
  rcases List.mem_append.1 hy with g | g
  ·exact qx sA hx y (by rw [t2];exact List.mem_cons_of_mem _ g)
  ·cases hb:B[j]? with
   | none=>rw [List.drop_of_length_le (by simpa using hb)] at g;cases g
   | some b=>exact Int.le_trans (h b hb) (qx sB hb y g)
 refine ⟨?_,zem M.s (fun y hy=>M.l y hy x DP),fun z hz y hy=>?_⟩
 ·rw [t1,List.append_assoc];refine ((M.p.append_right [x]).trans ?_);rw [List.append_assoc];exact List.Perm.append_left _ List.perm_append_comm
 ·rcases List.mem_append.1 hz with g | g
  ·exact Int.le_trans (M.l z g x DP) (ip y hy)
  ·obtain rfl:=List.mem_singleton.1 g;exact ip y hy
theorem MI.right {A B acc:List Int} {i j:Nat} (M:MI A B acc i j) (sA:A.Pairwise (· <= ·)) (sB:B.Pairwise (· <= ·)) {y:Int} (hy:B[j]? = some y) (h:∀ x,A[i]? = some x -> y <= x):MI A B (acc++[y]) i (j+1):=by
 obtain ⟨t1,t2⟩:=j1 B j y hy;have E0:y∈A.drop i++B.drop j:=List.mem_append_right _ (by rw [t2];exact List.mem_cons_self)
 have ip:∀ z,z∈A.drop i++B.drop (j+1) -> y <= z:=fun z hz=>by
  rcases List.mem_append.1 hz with g | g
  ·cases ha:A[i]? with
   | none=>rw [List.drop_of_length_le (by simpa using ha)] at g;cases g
   | some a=>exact Int.le_trans (h a ha) (qx sA ha z g)
  ·exact qx sB hy z (by rw [t2];exact List.mem_cons_of_mem _ g)
 refine ⟨?_,zem M.s (fun z hz=>M.l z hz y E0),fun x hx z hz=>?_⟩
 ·rw [t1,<- List.append_assoc];exact M.p.append_right [y]
 ·rcases List.mem_append.1 hx with g | g
  ·exact Int.le_trans (M.l x g y E0) (ip z hz)
  ·obtain rfl:=List.mem_singleton.1 g;exact ip z hz
theorem MI.done {A B acc L:List Int} {k:Nat} (M:MI A B acc A.length B.length) (pA:A.Perm (L.take k)) (pB:B.Perm (L.drop k)):acc.Perm L:=by
 have:=M.p;rw [List.take_length,List.take_length] at this;refine this.trans ((pA.append pB).trans ?_);rw [List.take_append_drop]
theorem zaP {L:List Int} (h:L.length < 2):L.Pairwise (· <= ·):=by
 match L,h with
 | [],_=>exact List.Pairwise.nil
 | [x],_=>exact List.pairwise_singleton _ _
theorem getD_some (L:List Int) (i:Nat) (h:i < L.length):L[i]? = some (L.getD i 0):=by simp [List.getD,h]
end
end Go.Proofs.YtjffpimfngdggaaGreat
