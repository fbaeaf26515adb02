/- RKit VKa VKb QIn RPu RSl PKa QJa -/
import Derived.Test.YtcilfelgpmfehaaGreatRows
import Derived.WalkKit
import Derived.WalkSpells
import Derived.Deep.QuietTactic
import Derived.BigQuiet
import Derived.Deep.RegionHeld
import Derived.Lib.QuietBelow
import Derived.Laws.Cells
import Derived.Laws.Tables
import Derived.Laws.CopyOwn
import Derived.Lib.OthersKept
import Derived.Deep.RegionWith
import Derived.Laws.MakeOwn
import Derived.Laws.AppendOwnNone
import Derived.Maps.AppendAt
import Derived.Deep.RegionLaw
set_option maxHeartbeats 1600000
namespace Go.Proofs.YtcilfelgpmfehaaGreat
open Go.RowKit

theorem hide {p:Prop} (h:p):Hid p:=h
theorem zm {a b:Bool} (h:a=b):Ending.returned (.bool a) = .returned (.bool b):=by rw [h]
theorem zx {k:IntKind} {a b:Int} (h:a=b):Ending.returned (.int k a) = .returned (.int k b):=by rw [h]
theorem ze (w:World) (o:Obj):Below w.heap.size w (w.alloc o):=(Below.refl _ _).alloc (Nat.le_refl _) _
theorem zd (w:World):Below w.heap.size w w.drew:=⟨rfl,rfl,rfl,Nat.le_refl _,fun _ _=>rfl⟩
theorem add_zero (p:Addr):p.add 0=p:=by unfold Addr.add;split <;> simp_all
theorem zp (p:Addr) (m:Nat):(p.add m).block=p.block:=by unfold Addr.add;split <;> rfl
theorem qt (p:Addr) (i j:Nat):(p.add i).add j=p.add (i+j):=by
 unfold Addr.add;split <;> split <;> simp_all [Nat.add_assoc]
structure Rn where
 lo:Int
 hi:Int
instance:DecidableEq Rn:=fun a b=>decidable_of_iff (a.lo=b.lo/\a.hi=b.hi) ⟨fun ⟨h1,h2⟩=>by cases a;cases b;simp_all,fun h=>by subst h;exact ⟨rfl,rfl⟩⟩
def rn0:Rn:=⟨0,0⟩
instance:Inhabited Rn:=⟨rn0⟩
def RC (r:Rn):Array Value:=#[.int .i64 r.lo,.int .i64 r.hi]
abbrev RV (r:Rn):Value:=.agg (RC r)
theorem zN (r:Rn):(RC r).size=2:=rfl
theorem jE (r:Rn):∀ v∈(RC r).toList,v.oneCell'=true:=by
 intro v hv;simp [RC] at hv;rcases hv with rfl | rfl <;> rfl
theorem zD (r:Rn):(RV r).cells=RC r:=by simp [Value.cells]
theorem zZ:(#[.int .i64 0,.int .i64 0]:Array Value)=RC rn0:=rfl
theorem qr (r:Rn):Array.foldl (fun cs x=>cs.setIfInBounds x.snd x.fst) (RC rn0) (RC r).zipIdx 0 2=RC r:=rfl
structure fR (w:World) (p:Addr) (r:Rn):Prop where
 c0:w.cell? p=some (.int .i64 r.lo)
 c1:w.cell? (p.add 1)=some (.int .i64 r.hi)
theorem fR.on {w w':World} {p:Addr} {r:Rn} (S:fR w p r) (hb:Below w.heap.size w w'):fR w' p r:=by
 have h0:=World.block_lt_of_cell? _ _ S.c0;exact ⟨by rw [hb.cell h0];exact S.c0,by rw [hb.cell (by rw [zp];exact h0)];exact S.c1⟩
def Box (w:World) (g:Nat) (T:TypeId) (r:Rn):Prop:=w.heap[g]? = some (.cells (RC r) T (0,0))
theorem Box.lt {w:World} {g:Nat} {T:TypeId} {r:Rn} (h:Box w g T r):g < w.heap.size:=(Array.getElem?_eq_some_iff.1 h).1
theorem Box.at {w:World} {g:Nat} {T:TypeId} {r:Rn} (h:Box w g T r):fR w ⟨g,0,none⟩ r:=by
 unfold Box at h;refine ⟨?_,?_⟩ <;> simp [Addr.add,World.cell?,h,RC]
theorem Box.below {w w':World} {g:Nat} {T:TypeId} {r:Rn} (h:Box w g T r) (hb:Below w.heap.size w w'):Box w' g T r:=(hb.block g h.lt).trans h
theorem qx (w:World) (T:TypeId) (r:Rn):Box (w.alloc (.cells (RC r) T)) w.heap.size T r:=by unfold Box;rw [heap_alloc_new]
def ldR (v:Value):Sem Value:=Instr.loadAt 139 v
theorem ki (v:Value):Instr.loadAt 139 v=ldR v:=rfl
def stR (p v:Value):Sem Unit:=Instr.storeAt 139 p v
theorem j8 (p v:Value):Instr.storeAt 139 p v=stR p v:=rfl
theorem nz:(Tryz.prog.info? 139).map (·.size)=some 2:=by kernel_rfl
theorem pv:(Tryz.prog.info? 139).map (fun i=>(i.zero,i.size,i.bytes))=some (some (.agg #[.int .i64 0,.int .i64 0]),2,16):=by kernel_rfl
theorem zcH {w:World} {p:Addr} {r:Rn} (A:fR w p r):(loadVar 139 p).run Tryz.prog w = .ok (RV r) w:=by
 have hl:=run_loadCells_list (P:=Tryz.prog) (w:=w) p (RC r).toList (fun j v hv=>by
  match j,hv with
  | 0,hv=>cases hv;rw [add_zero];exact A.c0
  | 1,hv=>cases hv;exact A.c1
  | j+2,hv=>simp [RC] at hv)
 cases hq:Tryz.prog.info? 139 with
 | none=>have:=nz;simp [hq] at this
 | some x =>
  have hs:x.size=2:=by have:=nz;simpa [hq] using this
  have eL:(isAgg 139).run Tryz.prog w = .ok true w:=by
   unfold isAgg;rw [Sem.run_bind,run_underlying Tryz.underlying139 w];rfl
  have e2:(RC r).toList.length=2:=rfl;rw [e2] at hl;simp [loadVar,Sem.run_bind,eL,sizeOf,typeInfo,hq,hs,hl,RV]
theorem xS {w:World} {p:Addr} {r:Rn} (A:fR w p r):(ldR (.pointer (some p))).run Tryz.prog w = .ok (RV r) w:=by
 unfold ldR;simp only [Instr.loadAt,Instr.sureAddr,Sem.run_bind,Sem.run_pure,Result.andThen];exact zcH A
theorem zcG {w:World} {g:Nat} {T:TypeId} {r r':Rn} (A:Box w g T r) :
  (stR (.pointer (some ⟨g,0,none⟩)) (RV r')).run Tryz.prog w = .ok () (w.setRow g (RC r')):=by
 unfold stR;have h:=run_storeCells_from (P:=Tryz.prog) g T (RC r').toList 0 (RC r) w A (by simp [RC]) (jE r')
 cases hq:Tryz.prog.info? 139 with
 | none=>have:=nz;simp [hq] at this
 | some x =>
  have hs:x.size=2:=by have:=nz;simpa [hq] using this
  simp only [Instr.storeAt,Instr.sureAddr,Sem.run_bind,Sem.run_pure,Result.andThen,storeVar,sizeOf,typeInfo,zD,zN];simp at h;simp [h,hq,hs]
theorem Box.setRow {w:World} {g:Nat} {T:TypeId} {r r':Rn} (A:Box w g T r):Box (w.setRow g (RC r')) g T r':=setRow_heap w g _ _ _ _ A
theorem zg {w w':World} {n g:Nat} {cs:Array Value} (h:Below n w w') (hg:n <= g):Below n w (w'.setRow g cs):=
 h.trans ⟨rfl,rfl,rfl,by simp [World.setRow],fun k hk=>setRow_other _ _ _ _ (by omega)⟩
theorem gE (w:World) (r:Rn) (g:Nat) (hg:w.heap.size=g):∃ w':World,(stR (.pointer (some ⟨g,0,none⟩)) (RV r)).run Tryz.prog (w.alloc (.cells (RC rn0) 139)) = .ok () w'/\Box w' g 139 r/\Below w.heap.size w w'/\w'.heap.size=w.heap.size+1:=by
 subst hg;refine ⟨_,zcG (qx w 139 rn0),(qx w 139 rn0).setRow,zg (ze w _) (Nat.le_refl _),by simp [World.setRow]⟩
structure aU (w:World) (ao:Option Addr) (m c:Nat) (L:List Rn):Prop where
 len:L.length=m
 nil:ao=none -> m=0/\c=0
 cell:∀ ad,ao=some ad -> ∀ t,t < m -> fR w (ad.add (t * 2)) (L.getD t rn0)
 cap:m <= c
 room:c <= maxLen
 big:m <= 8796093022207
theorem aU.below {w w':World} {ao:Option Addr} {m c:Nat} {L:List Rn} (h:aU w ao m c L) (hb:Below w.heap.size w w'):aU w' ao m c L:=
 ⟨h.len,h.nil,fun ad ha t ht=>(h.cell ad ha t ht).on hb,h.cap,h.room,h.big⟩
theorem aU.at {w:World} {ao:Option Addr} {m c:Nat} {L:List Rn} (h:aU w ao m c L) (k:Nat) (hk:k < m):∃ ad,ao=some ad/\fR w (ad.add (k * 2)) (L.getD k rn0):=by
 cases ao with
 | none=>have:=h.nil rfl;omega
 | some ad=>exact ⟨ad,rfl,h.cell ad rfl k hk⟩
theorem aU.empty (w:World):aU w none 0 0 []:=⟨rfl,fun _=>⟨rfl,rfl⟩,(fun ad h=>by cases h),Nat.le_refl _,Nat.zero_le _,by omega⟩
theorem aU.spot {w:World} {ad:Addr} {m c:Nat} {L:List Rn} (h:aU w (some ad) m c L) (hm:0 < m):∃ b o,ad=⟨b,o,none⟩:=by
 have:=World.cell?_spot (h.cell ad rfl 0 hm).c0;obtain ⟨b,o,s⟩:=ad
 have hs:s=none:=by simpa [Addr.add] using this
 exact ⟨b,o,by rw [hs]⟩
theorem aU.nums {w:World} {b o m c:Nat} {L:List Rn} (h:aU w (some ⟨b,o,none⟩) m c L) (k:Nat) (hk:k < m):w.cell? ⟨b,o+k * 2,none⟩=some (.int .i64 (L.getD k rn0).lo)/\w.cell? ⟨b,o+k * 2+1,none⟩=some (.int .i64 (L.getD k rn0).hi):=by
 have A:=h.cell _ rfl k hk;have h0:=A.c0;have h1:=A.c1;rw [Addr.add_lit] at h0 h1;rw [Addr.add_lit] at h1;exact ⟨h0,h1⟩
theorem aU.tail {w:World} {b o m c:Nat} {r:Rn} {L:List Rn} (h:aU w (some ⟨b,o,none⟩) m c (r :: L)):aU w (some ⟨b,o+2,none⟩) (m - 1) (c - 1) L:=by
 have hl:=h.len;simp at hl;refine ⟨by omega,fun e=>(by cases e),fun ad ha t ht=>?_,by have:=h.cap;omega,by have:=h.room;omega,by have:=h.big;omega⟩;obtain rfl:=Option.some.inj ha;have:=h.cell _ rfl (t+1) (by omega);rw [Addr.add_lit] at this ⊢;rw [show o+2+t * 2=o+(t+1) * 2 by omega];simpa [List.getD] using this
def rcs (L:List Rn):List Value:=(L.map (fun r=>(RC r).toList)).flatten
theorem xj (L R:List Rn):rcs (L++R)=rcs L++rcs R:=by simp [rcs]
theorem jY (r:Rn):rcs [r]=(RC r).toList:=by simp [rcs]
theorem qm (L:List Rn):(rcs L).length=L.length * 2:=by
 induction L with
 | nil=>rfl
 | cons a L ih=>have:rcs (a :: L)=(RC a).toList++rcs L:=rfl;rw [this,List.length_append,ih];simp [RC];omega
theorem vQ (L:List Rn) (t j:Nat) (ht:t < L.length) (hj:j < 2):(rcs L)[t * 2+j]? = (RC (L.getD t rn0)).toList[j]?:=by
 induction L generalizing t with
 | nil=>simp at ht
 | cons a L ih =>
  have e:rcs (a :: L)=(RC a).toList++rcs L:=rfl
  cases t with
  | zero=>rw [e,List.getElem?_append_left (by simp [RC];omega)];simp [List.getD]
  | succ t =>
   rw [e,List.getElem?_append_right (by simp [RC];omega)];have h:=ih t (by simpa using ht)
   have e4:(t+1) * 2+j - (RC a).toList.length=t * 2+j:=by simp [RC];omega
   rw [e4,h];simp [List.getD]
theorem zaH (L:List Rn):∀ u∈rcs L,u.oneCell'=true:=by
 intro u hu;obtain ⟨l,hl,hv⟩:=List.mem_flatten.1 hu;obtain ⟨e,_,rfl⟩:=List.mem_map.1 hl;exact jE e u hv
theorem zep (w:World) (L:List Rn) (C:Array Value) (hC:C=(rcs L).toArray) (T:TypeId) (n:Nat) (hn:L.length=n) (hm:n <= 8796093022207) :
  aU (w.alloc (.cells C T)) (some ⟨w.heap.size,0,none⟩) n n L:=by
 subst hC hn
 have cell:∀ t j,t < L.length -> j < 2 -> (w.alloc (.cells (rcs L).toArray T)).cell? ⟨w.heap.size,t * 2+j,none⟩=(RC (L.getD t rn0)).toList[j]?:=by
  intro t j ht hj;rw [World.cell?_alloc_new,List.getElem?_toArray,vQ L t j ht hj]
 refine ⟨rfl,fun h=>(by cases h),fun ad h t ht=>?_,Nat.le_refl _,by unfold maxLen;omega,hm⟩;obtain rfl:=Option.some.inj h;refine ⟨?_,?_⟩
 ·rw [Addr.add_lit,Nat.zero_add];exact cell t 0 ht (by omega)
 ·rw [Addr.add_lit,Addr.add_lit,Nat.zero_add];exact cell t 1 ht (by omega)
structure du (B0 B:Nat) (w w':World) (ao:Option Addr) (cap:Nat) (acc:List Rn):Prop where
 own:w'.ownsRow B 139 2 (.slice ao acc.length cap) acc.length (rcs acc)
 below:Below B0 w w'
 hB:B <= w'.heap.size
 hB0:B0 <= B
theorem du.nil {B0 B:Nat} {w w':World} (hb:Below B0 w w') (hB:B <= w'.heap.size) (h0:B0 <= B):du B0 B w w' none 0 []:=
 ⟨World.ownsRow_nil _ _ _ _,hb,hB,h0⟩
theorem du.append {B0 B:Nat} {w w':World} {ao:Option Addr} {cap:Nat} {acc:List Rn} (O:du B0 B w w' ao cap acc) (e:Rn) (C:Array Value) (hC:C=RC e) (cP:acc.length < 8796093022207)
  {ops:Array Oper} {rest:List Oper} {o:Oper} {a:Act} {Q:Exit -> Act -> World -> Prop} (hgd:o.guard=none) (s x:Operand) (ho:o.op = .call { callee:=.builtin .append,args:=#[s,x],argTypes:=#[111,111] })
  (n:Nat) (hn:acc.length=n) (hs:a.eval s = .slice ao n cap) (hx:a.eval x = .slice (some ⟨w'.heap.size,0,none⟩) 1 1)
  (hK:∀ (g cap2:Nat) (w2:World),du B0 B w w2 (some ⟨g,0,none⟩) cap2 (acc++[e]) -> wpList Tryz.prog ops Q rest (a.put o.dst (.slice (some ⟨g,0,none⟩) (n+1) cap2)) w2) :
  wpList Tryz.prog ops Q (o :: rest) a (w'.alloc (.cells C 139)):=by
 subst hn hC;obtain ⟨i0,hi,dn,dm,ef⟩:=info_parts pv;have hB:=O.hB;have hB0:=O.hB0;refine wpList_append_own _ hgd s x 111 ho B 139 i0 (.agg #[.int .i64 0,.int .i64 0]) 2 16 Tryz.underlying111 hi dn dm ef rfl (by decide) _ acc.length (rcs acc) hs (O.own.alloc _) ⟨w'.heap.size,0,none⟩ 1 1 (RC e).toList hx (by simp [RC]) ?_ ?_ (by unfold maxLen;omega) (by omega) (by simp;omega) ?_
 ·intro j u hj;rw [Addr.add_lit,Nat.zero_add,World.cell?_alloc_new];simpa using hj
 ·intro u hu;exact jE e u hu
 ·intro v' w2 cp aC _;rcases cp.2 with ⟨h0,eU⟩ | ⟨g,cap2,cur,hv,r⟩
  ·omega
  ·subst hv;have dv:∀ k,(Value.slice ao acc.length cap).ownBlock=some k -> B <= k:=fun k hk=>(O.own.lt k hk).1;have eE:=aC.size;rw [World.size_alloc] at eE;refine hK g cap2 w2 ⟨?_,(O.below.alloc (by omega) _).grown aC (by simp;omega) (fun k hk=>by have:=dv k hk;omega),by omega,hB0⟩;rw [List.length_append,xj,jY];exact cp
theorem du.later {B0 B:Nat} {w w' w2:World} {ao:Option Addr} {cap:Nat} {acc:List Rn} (O:du B0 B w w' ao cap acc) (hb:Below w'.heap.size w' w2):du B0 B w w2 ao cap acc:=by
 refine ⟨⟨O.own.1,?_⟩,O.below.trans (hb.mono (Nat.le_trans O.hB0 O.hB)),Nat.le_trans O.hB hb.size,O.hB0⟩;rcases O.own.2 with h | ⟨g,cap2,cur,hv,dV,dB,r⟩
 ·exact Or.inl h
 ·exact Or.inr ⟨g,cap2,cur,hv,dV,(hb.block g (Array.getElem?_eq_some_iff.1 dB).1).trans dB,r⟩
theorem du.src {B0 B:Nat} {w w':World} {ao:Option Addr} {cap:Nat} {acc:List Rn} (O:du B0 B w w' ao cap acc) (hl:acc.length <= 8796093022207):aU w' ao acc.length cap acc/\∀ ad,ao=some ad -> B <= ad.block:=by
 rcases O.own.2 with ⟨h0,eU⟩ | ⟨g,cap2,cur,hv,dV,dB,hnc,fw,hcsz,htake⟩
 ·simp only [Value.slice.injEq] at h0;obtain ⟨rfl,e0,rfl⟩:=h0;exact ⟨⟨rfl,fun _=>⟨eU,rfl⟩,(fun ad h=>by cases h),by omega,Nat.zero_le _,hl⟩,fun ad h=>(by cases h)⟩
 ·simp only [Value.slice.injEq,true_and] at hv;obtain ⟨rfl,rfl⟩:=hv
  have cell:∀ t j,t < acc.length -> j < 2 -> w'.cell? ⟨g,t * 2+j,none⟩=(RC (acc.getD t rn0)).toList[j]?:=fun t j ht hj=>by
   rw [O.own.cellAt (t * 2+j) (by omega),vQ _ t j ht hj]
  refine ⟨⟨rfl,fun h=>(by cases h),fun ad h t ht=>?_,hnc,fw,hl⟩,fun ad h=>by obtain rfl:=Option.some.inj h;exact dV⟩;obtain rfl:=Option.some.inj h;refine ⟨?_,?_⟩
  ·rw [Addr.add_lit,Nat.zero_add];exact cell t 0 ht (by omega)
  ·rw [Addr.add_lit,Addr.add_lit,Nat.zero_add];exact cell t 1 ht (by omega)
def il (w w':World) (e:Ending) (P:List Rn -> Prop):Prop:=∃ ao n c L,e = .returned (.slice ao n c)/\aU w' ao n c L/\Below w.heap.size w w'/\P L
end Go.Proofs.YtcilfelgpmfehaaGreat
namespace Go.Proofs.YtcilfelgpmfehaaGreat.V
section
open Go.RowKit


def Src (w:World) (ao:Option Addr) (m c:Nat) (Z:List Int):Prop:=
 Z.length=m/\(ao=none -> m=0/\c=0)/\∀ ad,ao=some ad -> ∀ t,t < m -> w.cell? (ad.add t)=some (.int .i64 (Z.getD t 0))
theorem Src.below {w w':World} {ao:Option Addr} {m c:Nat} {Z:List Int} (h:Src w ao m c Z) (hb:Below w.heap.size w w'):Src w' ao m c Z:=
 ⟨h.1,h.2.1,fun ad ha t ht=>(hb.cell (World.block_lt_of_cell? w _ (h.2.2 ad ha t ht))).trans (h.2.2 ad ha t ht)⟩

def isR (r:Int):Bool:=decide (0 <= r) && decide (r < 16)
def dK (z:Int):Int:=if z < 0 then 0 else if 1000000000 < z then 1000000000 else z
def at' (Z:List Int) (r:Nat):Int:=if r < 16 then dK (Z.getD r 0) else 0
def atI (Z:List Int) (r:Int):Int:=if isR r=true then at' Z r.toNat else 0

theorem qp (r:Int) (w:World):Calls Tryz.prog 131 #[.int .i64 r] w fun e w'=>e = .returned (.bool (isR r))/\w'=w:=by
 go_enter Tryz.func131,Tryz.ntmps131;by_cases h0:0 <= r
 ·have HR:Hid (isR r=decide (r < 16)):=by show _=_;unfold isR;rw [decide_eq_true h0,Bool.true_and]
  go_wp2;go_ret;exact ⟨zm HR.out.symm,rfl⟩
 ·have HR:Hid (isR r=false):=by show _=_;unfold isR;rw [decide_eq_false h0,Bool.false_and]
  go_wp2;go_ret;exact ⟨zm HR.out.symm,rfl⟩

theorem qR (ao:Option Addr) (n cap:Nat) (Z:List Int) (r:Int) (w:World) (hS:Src w ao n cap Z) :
  Calls Tryz.prog 90 #[.slice ao n cap,.int .i64 r] w fun e w'=>e = .returned (.int .i64 (atI Z r))/\w'=w:=by
 obtain ⟨x,Hx⟩:∃ x,Hid (isR r=x):=⟨_,rfl⟩
 cases x with
 | false =>
  have HA:Hid (atI Z r=0):=by show _=_;unfold atI;rw [Hx.out];rfl
  go_enter Tryz.func90,Tryz.ntmps90;go_wp2_with (go_at_call 131;refine (qp r _).mono ?_;rintro e w' ⟨rfl,rfl⟩;rw [Hx.out]);go_ret;exact ⟨zx HA.out.symm,rfl⟩
 | true =>
  have hr:0 <= r/\r < 16:=by have:=Hx.out;unfold isR at this;simpa using this
  have HA:Hid (atI Z r=dK (Z.getD r.toNat 0)):=by show _=_;unfold atI at';rw [if_pos Hx.out,if_pos (by omega)]
  obtain ⟨k,rfl⟩:∃ k:Nat,r=k:=⟨r.toNat,by omega⟩;rw [Int.toNat_natCast] at HA;by_cases aq:k < n
  ·cases ao with
   | none=>have:=hS.2.1 rfl;omega
   | some ad =>
    have fk:=hS.2.2 ad rfl k aq;obtain ⟨z,hz⟩:∃ z,Z.getD k 0=z:=⟨_,rfl⟩;rw [hz] at fk HA;clear hz hS;by_cases h1:z < 0
    ·have HC:Hid (atI Z k=0):=by show _=_;rw [HA.out];unfold dK;rw [if_pos h1]
     go_enter Tryz.func90,Tryz.ntmps90;go_wp2_with (go_at_call 131;refine (qp k _).mono ?_;rintro e w' ⟨rfl,rfl⟩;rw [Hx.out]);go_ret;exact ⟨zx HC.out.symm,rfl⟩
    ·by_cases h2:1000000000 < z
     ·have HC:Hid (atI Z k=1000000000):=by show _=_;rw [HA.out];unfold dK;rw [if_neg h1,if_pos h2]
      go_enter Tryz.func90,Tryz.ntmps90;go_wp2_with (go_at_call 131;refine (qp k _).mono ?_;rintro e w' ⟨rfl,rfl⟩;rw [Hx.out]);go_ret;exact ⟨zx HC.out.symm,rfl⟩
     ·have HC:Hid (atI Z k=z):=by show _=_;rw [HA.out];unfold dK;rw [if_neg h1,if_neg h2]
      go_enter Tryz.func90,Tryz.ntmps90;go_wp2_with (go_at_call 131;refine (qp k _).mono ?_;rintro e w' ⟨rfl,rfl⟩;rw [Hx.out]);go_ret;exact ⟨zx HC.out.symm,rfl⟩
  ·have HC:Hid (atI Z k=0):=by
    show _=_;rw [HA.out,List.getD,List.getElem?_eq_none (by have:=hS.1;omega)];rfl
   go_enter Tryz.func90,Tryz.ntmps90;go_wp2_with (go_at_call 131;refine (qp k _).mono ?_;rintro e w' ⟨rfl,rfl⟩;rw [Hx.out]);go_ret;exact ⟨zx HC.out.symm,rfl⟩


def VC (f:Nat -> Int):Array Value:=((List.range 16).map fun r=>Value.int .i64 (f r)).toArray
abbrev VA (f:Nat -> Int):Value:=.agg (VC f)
theorem zgl (f:Nat -> Int):(VC f).size=16:=by simp [VC]
theorem zgT (f:Nat -> Int) (t:Nat) (h:t < 16):(VC f)[t]? = some (.int .i64 (f t)):=by simp [VC,h]
theorem zfk {f g:Nat -> Int} (h:∀ r,r < 16 -> f r=g r):VC f=VC g:=by
 unfold VC;congr 1;apply List.map_congr_left;intro r hr;rw [h r (by simpa using hr)]
theorem zgS (f:Nat -> Int):∀ v∈(VC f).toList,v.oneCell'=true:=by
 intro v hv;simp only [VC,List.mem_map] at hv;obtain ⟨r,_,rfl⟩:=hv;rfl
theorem zbH (f:Nat -> Int):(VA f).cells=VC f:=by
 simp [Value.cells]
def Arr (w:World) (g:Nat) (T:TypeId) (f:Nat -> Int):Prop:=w.heap[g]? = some (.cells (VC f) T (0,0))
def ly (f:Nat -> Int) (k:Nat) (z:Int):Nat -> Int:=fun r=>if r=k then z else f r

section
variable {w w' : World} {g : Nat} {T : TypeId} {f : Nat -> Int}
theorem Arr.lt (h:Arr w g T f):g < w.heap.size:=(Array.getElem?_eq_some_iff.1 h).1
theorem Arr.cell (h:Arr w g T f) (t:Nat) (ht:t < 16):w.cell? ⟨g,t,none⟩=some (.int .i64 (f t)):=by
 unfold Arr at h;simp [World.cell?,h,zgT f t ht]
theorem Arr.frozen (h:Arr w g T f) (t:Nat):w.frozen? ⟨g,t,none⟩=false:=by unfold Arr at h;simp [World.frozen?,h]
theorem zgR (f:Nat -> Int) (t:Nat) (z:Int):(VC f).setIfInBounds t (.int .i64 z)=VC (ly f t z):=by
 apply Array.ext
 ·simp [VC]
 ·intro i h1 h2;simp [VC] at h2;by_cases h:t=i
  ·subst h;simp [VC,ly]
  ·have:¬ i=t:=fun e=>h e.symm;simp [VC,ly,h,this]
theorem Arr.set (h:Arr w g T f) (t:Nat) (z:Int):Arr (w.setCell ⟨g,t,none⟩ (.int .i64 z)) g T (ly f t z):=by
 unfold Arr at h ⊢;simp [World.setCell,h,Array.getElem?_modify,<- zgR]
theorem Arr.congr {f':Nat -> Int} (h:Arr w g T f) (e:∀ r,r < 16 -> f r=f' r):Arr w g T f':=by
 unfold Arr at h ⊢;rw [<- zfk e];exact h
theorem Arr.setOther (h:Arr w g T f) (a:Addr) (v:Value) (aT:a.block≠g):Arr (w.setCell a v) g T f:=by
 unfold Arr at h ⊢;simp [World.setCell,h,Array.getElem?_modify,aT]
theorem Arr.below (h:Arr w g T f) (hb:Below w.heap.size w w'):Arr w' g T f:=(hb.block g h.lt).trans h
theorem Arr.alloc (h:Arr w g T f) (o:Obj):Arr (w.alloc o) g T f:=(Below.heap_alloc w o g h.lt).trans h
theorem bt (w:World) (T:TypeId) (f:Nat -> Int):Arr (w.alloc (.cells (VC f) T)) w.heap.size T f:=by unfold Arr;rw [heap_alloc_new]
theorem zfi (w:World) (o:Obj) (T:TypeId) (f:Nat -> Int):Arr ((w.alloc o).alloc (.cells (VC f) T)) (w.heap.size+1) T f:=by
 have:=bt (w.alloc o) T f;rwa [World.size_alloc] at this
theorem vg:(#[.int .i64 0,.int .i64 0,.int .i64 0,.int .i64 0,.int .i64 0,.int .i64 0,.int .i64 0,.int .i64 0,.int .i64 0,.int .i64 0,.int .i64 0,.int .i64 0,.int .i64 0,.int .i64 0,.int .i64 0,.int .i64 0]:Array Value)=VC (fun _=>0):=rfl
end

def uZ (v:Value):Sem Value:=Instr.loadAt 176 v
theorem zdf (v:Value):Instr.loadAt 176 v=uZ v:=rfl
def Ad (p v:Value):Sem Unit:=Instr.storeAt 176 p v
theorem zcD (p v:Value):Instr.storeAt 176 p v=Ad p v:=rfl
theorem li:(Tryz.prog.info? 176).map (·.size)=some 16:=by kernel_rfl
theorem zbe {w:World} {g:Nat} {T:TypeId} {f:Nat -> Int} (A:Arr w g T f):(loadVar 176 ⟨g,0,none⟩).run Tryz.prog w = .ok (VA f) w:=by
 have hl:=run_loadCells_list (P:=Tryz.prog) (w:=w) ⟨g,0,none⟩ (VC f).toList (fun j v hv=>by
  rw [Addr.add_lit,Nat.zero_add]
  have hj:j < 16:=by have:=(List.getElem?_eq_some_iff.1 hv).1;simpa [VC] using this
  rw [A.cell j hj];have:=zgT f j hj;simp only [Array.getElem?_toList] at hv
  rw [this] at hv;exact hv)
 cases hq:Tryz.prog.info? 176 with
 | none=>have:=li;simp [hq] at this
 | some x =>
  have hs:x.size=16:=by have:=li;simpa [hq] using this
  have eL:(isAgg 176).run Tryz.prog w = .ok true w:=by
   unfold isAgg;rw [Sem.run_bind,run_underlying Tryz.underlying176 w];rfl
  have e:(VC f).toList.length=16:=by simp [VC]
  rw [e] at hl;simp [loadVar,Sem.run_bind,eL,sizeOf,typeInfo,hq,hs,hl,VA]
theorem zd8 {w:World} {g:Nat} {T:TypeId} {f:Nat -> Int} (A:Arr w g T f):(uZ (.pointer (some ⟨g,0,none⟩))).run Tryz.prog w = .ok (VA f) w:=by
 unfold uZ;simp only [Instr.loadAt,Instr.sureAddr,Sem.run_bind,Sem.run_pure,Result.andThen];exact zbe A
theorem zd6 {w:World} {g:Nat} {T:TypeId} {f f':Nat -> Int} (A:Arr w g T f) :
  (Ad (.pointer (some ⟨g,0,none⟩)) (VA f')).run Tryz.prog w = .ok () (w.setRow g (VC f')):=by
 unfold Ad;have h:=run_storeCells_from (P:=Tryz.prog) g T (VC f').toList 0 (VC f) w A (by simp [VC]) (zgS f')
 cases hq:Tryz.prog.info? 176 with
 | none=>have:=li;simp [hq] at this
 | some x =>
  have hs:x.size=16:=by have:=li;simpa [hq] using this
  simp only [Instr.storeAt,Instr.sureAddr,Sem.run_bind,Sem.run_pure,Result.andThen,storeVar,sizeOf,typeInfo,zbH,zgl];simp at h;simp [h,hq,hs]
theorem Arr.setRow {w:World} {g:Nat} {T:TypeId} {f f':Nat -> Int} (A:Arr w g T f):Arr (w.setRow g (VC f')) g T f':=setRow_heap w g _ _ _ _ A
theorem zg {w w':World} {n g:Nat} {cs:Array Value} (h:Below n w w') (hg:n <= g):Below n w (w'.setRow g cs):=
 h.trans ⟨rfl,rfl,rfl,by simp [World.setRow],fun k hk=>setRow_other _ _ _ _ (by omega)⟩
theorem xe {w w':World} {n:Nat} {a:Addr} {v:Value} (h:Below n w w') (hg:n <= a.block):Below n w (w'.setCell a v):=
 h.trans ⟨rfl,rfl,rfl,by simp [World.setCell],fun k hk=>by simp [World.setCell,Array.getElem?_modify,show ¬ a.block=k by omega]⟩
theorem Dw {fn:Func} {p:Tmp} {w:World} {g:Nat} {T:TypeId} {f:Nat -> Int} (h:fn.results=#[.cell p 176]) {tmps:Array Value} (hp:tmps.getD p undef = .pointer (some ⟨g,0,none⟩)) (A:Arr w g T f) :
  (results fn tmps).run Tryz.prog w = .ok (VA f) w:=by
 have hl:=zbe A;simp only [results,h];rw [Array.getD_eq_getD_getElem?] at hp;simp [hp,asAddr,hl]
attribute [local go_sem ↓] zdf zcD
theorem zdd (ao:Option Addr) (n cap:Nat) (Z:List Int) (w:World) (hS:Src w ao n cap Z) :
  Calls Tryz.prog 133 #[.slice ao n cap] w fun e w'=>e = .returned (VA (at' Z))/\Below w.heap.size w w':=by
 have HS:=hide hS;clear hS;go_enter Tryz.func133,Tryz.ntmps133;go_wp2;go_loopw [5] (fun i wr=>∃ k:Nat,k <= 16/\i = .int .i64 k/\Hid (Arr wr w.heap.size 176 fun _=>0)/\Hid (Arr wr (w.heap.size+1) 176 fun r=>if r < k then at' Z r else 0)/\Hid (Below w.heap.size w wr)) (fun i _=>16 - (intOf i).toNat)
 case atStart =>
  rw [vg];exact ⟨0,Nat.zero_le _,rfl,(bt w 176 _).alloc _,(zfi w _ 176 _).congr (fun r _=>by simp),((Below.refl _ _).alloc (Nat.le_refl _) _).alloc (by simp) _⟩
 case round =>
  obtain ⟨k,hk,rfl,A0,A1,HB⟩:=hrel;by_cases aq:k < 16
  ·have HC:=hide (qR ao n cap Z k wr (HS.out.below HB.out))
   have HI:Hid (atI Z k=at' Z k):=by show _=_;unfold atI;rw [if_pos (by simp [isR];omega),Int.toNat_natCast]
   have c1:=A1.out.cell k aq;have z1:=A1.out.frozen k;go_wp2_with (go_at_call 90;refine HC.out.mono ?_;rintro e w' ⟨rfl,rfl⟩);go_roundw
   case rel =>
    refine ⟨k+1,by omega,by go_num,A0.out.setOther _ _ (by simp),(A1.out.set k _).congr (fun r _=>?_),xe HB.out (by simp)⟩;rw [HI.out];unfold ly;by_cases e:r=k
    ·subst e;simp
    ·by_cases h:r < k
     ·simp [e,h];omega
     ·simp [e,h];omega
   case measure=>simp [intOf];omega
  ·obtain rfl:k=16:=by omega
   have A1':=A1.out.congr (f':=at' Z) (fun r hr=>by simp [hr]);have l1:=zd8 A1';have s1:=zd6 (f':=at' Z) A0.out;go_wp2;refine bodyPost_ret (v:=VA (at' Z)) ?_ rfl ⟨rfl,zg HB.out (Nat.le_refl _)⟩;exact Dw Tryz.results133 rfl (A0.out.setRow)
end
section
open Go.RowKit
attribute [local go_sem] vg
def i9 (Z:List Int) (r m:Int):Bool:=decide (1 <= m) && decide (m <= atI Z r)
theorem ze1 (z:Int):0 <= dK z/\dK z <= 1000000000:=by unfold dK;split;omega;split <;> omega
theorem zbL (Z:List Int) (r:Nat):0 <= at' Z r/\at' Z r <= 1000000000:=by
 unfold at';split
 ·exact ze1 _
 ·omega
theorem zaw (Z:List Int) (r:Int):0 <= atI Z r/\atI Z r <= 1000000000:=by
 unfold atI;split
 ·exact zbL _ _
 ·omega

theorem zfh (ao:Option Addr) (n cap:Nat) (Z:List Int) (r:Int) (w:World) (hS:Src w ao n cap Z) :
  Calls Tryz.prog 90 #[.slice ao n cap,.int .i64 r] w fun e w'=>e = .returned (.int .i64 (atI Z r))/\Below w.heap.size w w':=by
 refine (qR ao n cap Z r w hS).mono ?_;rintro e w' ⟨rfl,rfl⟩;exact ⟨rfl,Below.refl _ _⟩

theorem zf2 (ao:Option Addr) (n cap:Nat) (Z:List Int) (r m:Int) (w:World) (hS:Src w ao n cap Z) :
  Calls Tryz.prog 145 #[.slice ao n cap,.agg #[.int .i64 r,.int .i64 m]] w fun e w'=>e = .returned (.bool (i9 Z r m))/\Below w.heap.size w w':=by
 have HB:Hid (Below w.heap.size w (w.alloc (.cells #[.int .i64 r,.int .i64 m] 64))):=(Below.refl _ _).alloc (Nat.le_refl _) _;have HS:=hide (hS.below HB.out);clear hS;obtain ⟨w0,mh⟩:∃ w0,Hid (w.alloc (.cells #[.int .i64 r,.int .i64 m] 64)=w0):=⟨_,rfl⟩;have k0:=cell_regrown (show w0.cell? ⟨w.heap.size,0,none⟩=some (.int .i64 r) by rw [<- mh.out];simp);have k1:=cell_regrown (show w0.cell? ⟨w.heap.size,1,none⟩=some (.int .i64 m) by rw [<- mh.out];simp);rw [mh.out] at HB HS;obtain ⟨a,HA⟩:∃ a,Hid (atI Z r=a):=⟨_,rfl⟩
 have cA:∀ d os,Calls Tryz.prog 90 #[.slice ao n cap,.int .i64 r] (Sort.grow (redrawn w0 d) os) fun e w''=>e = .returned (.int .i64 a)/\∃ p:Regrown,w''=Sort.grow (redrawn w0 p.d) p.os:=fun d os=>by
  have:=zfh ao n cap Z r (Sort.grow (redrawn w0 d) os) (HS.out.below (below_regrown w0 d os));rw [HA.out] at this;exact Calls.regrown_of this
 by_cases h1:1 <= m
 ·have HR:Hid (i9 Z r m=decide (m <= a)):=by show _=_;unfold i9;rw [decide_eq_true h1,Bool.true_and,HA.out]
  go_enter Tryz.func145,Tryz.ntmps145;go_wp2_with fail;rw [mh.out];refine wp_region_quiet_below (by kernel_rfl) (by kernel_rfl) ?_
  repeat (quiet_step ((go_at_call 90;exact cA _ _)))
  refine wpQuiet_nil ?_;intro _ hw';obtain ⟨⟨dq,osq⟩,hw''⟩:=hw';subst hw'';have dA:Hid (Below w.heap.size w (Sort.grow (redrawn w0 dq) osq)):=HB.out.trans ((below_regrown w0 dq osq).mono HB.out.size);go_wp2;go_ret;exact ⟨zm HR.out.symm,dA.out⟩
 ·have HR:Hid (i9 Z r m=false):=by show _=_;unfold i9;rw [decide_eq_false h1,Bool.false_and]
  have i6:=decide_eq_false h1;go_enter Tryz.func145,Tryz.ntmps145;go_wp2_with fail;rw [mh.out];refine wp_region_quiet_below (by kernel_rfl) (by kernel_rfl) ?_
  repeat (quiet_step (fail))
  refine wpQuiet_nil ?_;intro _ hw';obtain ⟨⟨dq,osq⟩,hw''⟩:=hw';subst hw'';have dA:Hid (Below w.heap.size w (Sort.grow (redrawn w0 dq) osq)):=HB.out.trans ((below_regrown w0 dq osq).mono HB.out.size);go_wp2;go_ret;exact ⟨zm HR.out.symm,dA.out⟩

attribute [local go_sem ↓] zdf zcD
attribute [local go_sem] vg zbH
def ek (f:Nat -> Int):Nat -> Nat
 | 0=>0
 | k+1=>if f k=0 then ek f k else k+1
def top (f:Nat -> Int):Nat:=ek f 16
def aH (f:Nat -> Int):List Int:=(List.range (top f)).map f
theorem zfI (f:Nat -> Int) (k:Nat):ek f k <= k:=by
 induction k with
 | zero=>simp [ek]
 | succ k ih=>unfold ek;split <;> omega
theorem kL (f:Nat -> Int):top f <= 16:=zfI f 16
theorem zO (f:Nat -> Int):(aH f).length=top f:=by simp [aH]
def KF (w w':World) (e:Ending) (Z:List Int):Prop:=∃ ao n c,e = .returned (.slice ao n c)/\Src w' ao n c Z/\Below w.heap.size w w'

def pe (w w':World) (e:Ending) (Z:List Int):Prop:=∃ ao n c,e = .returned (.slice ao n c)/\Src w' ao n c Z/\Below w.heap.size w w'/\∀ ad,ao=some ad -> w.heap.size <= ad.block
theorem DA:(Tryz.prog.info? 3).map (fun i=>(i.zero,i.size,i.bytes))=some (some (.int .i64 0),1,8):=by kernel_rfl
theorem og (n:Nat):madeCells #[Value.int .i64 0] n=((List.replicate n (0:Int)).map (Value.int .i64)).toArray:=by
 apply Array.ext
 ·simp [madeCells]
 ·intro i h1 h2;simp [madeCells,Nat.mod_one]
theorem zgz (w:World) (n:Nat) (hn:n <= 16):(Instr.makeSlice 23 (.int .i64 (n:Int)) (.int .i64 (n:Int))).run Tryz.prog w = .ok (.slice (some ⟨w.heap.size,0,none⟩) n n) (w.alloc (.cells ((List.replicate n (0:Int)).map (Value.int .i64)).toArray 3)):=by
 obtain ⟨i0,hi,dn,dm,ef⟩:=info_parts DA;have h:=run_make (P:=Tryz.prog) w 23 3 i0 (.int .i64 0) Tryz.underlying23 hi dn .i64 .i64 (n:Int) (n:Int) (by omega) (by omega) (by rw [ef];omega) (by omega);rw [dm,Int.toNat_natCast,Nat.mul_one] at h;have fD:(Value.int .i64 0).cells=#[Value.int .i64 0]:=rfl;rw [fD,og] at h;exact h

def sH (a b:Value):Sem Value:=Instr.makeSlice 23 a b
theorem vV (a b:Value):Instr.makeSlice 23 a b=sH a b:=rfl
def DB (a b:Value):Sem Value:=Builtin.copy_ #[23,23] 3 #[a,b]
theorem zf7 (a b:Value):Builtin.copy_ #[23,23] 3 #[a,b]=DB a b:=rfl
attribute [local go_sem ↓] vV zf7
theorem Dx:(Tryz.prog.info? 3).map (·.size)=some 1:=by kernel_rfl
theorem vX (f:Nat -> Int) (w wr:World) (k:Nat) (K:Int) (hK:K=(k:Int)) (hk:k <= 16) (hT:k=top f) (A:Arr wr w.heap.size 176 f) (hz:wr.heap.size=w.heap.size+1) (hb:Below w.heap.size w wr) :
  ∃ w1 w2:World,(sH (.int .i64 K) (.int .i64 K)).run Tryz.prog wr = .ok (.slice (some ⟨w.heap.size+1,0,none⟩) k k) w1 /\
   (DB (.slice (some ⟨w.heap.size+1,0,none⟩) k k) (.slice (some ⟨w.heap.size,0,none⟩) k 16)).run Tryz.prog w1 = .ok (goInt K) w2 /\
   Src w2 (some ⟨w.heap.size+1,0,none⟩) k k (aH f)/\Below w.heap.size w w2:=by
 subst hK;have h1:=zgz wr k hk;rw [hz] at h1;have A1:=A.alloc (.cells ((List.replicate k (0:Int)).map (Value.int .i64)).toArray 3)
 have hg:(wr.alloc (.cells ((List.replicate k (0:Int)).map (Value.int .i64)).toArray 3)).heap[w.heap.size+1]? = some (.cells ((List.replicate k (0:Int)).map (Value.int .i64)).toArray 3 (0,0)):=by
  rw [<- hz];exact heap_alloc_new wr _
 have hl:((aH f).map (Value.int .i64)).length=k:=by rw [List.length_map,zO,hT]
 have h2:=run_copy_row (P:=Tryz.prog) (wr.alloc (.cells ((List.replicate k (0:Int)).map (Value.int .i64)).toArray 3)) 23 23 3 3 (w.heap.size+1) 0 k k ⟨w.heap.size,0,none⟩ k 16 _ 3 ((aH f).map (Value.int .i64)) Tryz.underlying23 Dx hg
  (by rw [hl];simp) (fun j v hv=>by
   rw [Addr.add_lit,Nat.zero_add];simp only [List.getElem?_map,Option.map_eq_some_iff] at hv;obtain ⟨z,dm,rfl⟩:=hv
   have hj:j < top f:=by rw [<- zO];exact (List.getElem?_eq_some_iff.1 dm).1
   have oN:=kL f;rw [A1.cell j (by omega)];simp [aH,hj] at dm
   rw [dm]) (by rw [hl];simp) (fun v hv=>by simp only [List.mem_map] at hv;obtain ⟨z,_,rfl⟩:=hv;rfl)
 rw [hl] at h2;refine ⟨_,_,h1,h2,?_,?_⟩
 ·refine ⟨by rw [zO,hT],fun h=>(by cases h),fun ad h t ht=>?_⟩;obtain rfl:=Option.some.inj h;simp only [Addr.add_lit,Nat.zero_add];rw [cell_setRow_same _ _ t _ _ _ _ hg]
  have Kw:(aH f).length=k:=by rw [zO,hT]
  have rQ:t < (aH f).length:=by omega
  simp [List.getD];rw [List.getElem?_eq_getElem rQ];rfl
 ·exact zg (hb.alloc (by omega) _) (by omega)

theorem zet (f:Nat -> Int) (w:World):Calls Tryz.prog 134 #[VA f] w fun e w'=>pe w w' e (aH f):=by
 go_enter Tryz.func134,Tryz.ntmps134;go_wp2;go_loopw [3] (fun i wr=>∃ k:Nat,k <= 16/\i = .int .i64 k/\Hid (ek f k=top f)/\Hid (Arr wr w.heap.size 176 f)/\Hid (wr.heap.size=w.heap.size+1)/\Hid (Below w.heap.size w wr)) (fun i _=>(intOf i).toNat)
 case atStart=>exact ⟨16,Nat.le_refl _,rfl,rfl,bt w 176 f,by show _=_;simp,(Below.refl _ _).alloc (Nat.le_refl _) _⟩
 case round =>
  obtain ⟨k,hk,rfl,HT,A,HZ,HB⟩:=hrel
  cases k with
  | zero =>
   have ht:0=top f:=by rw [<- HT.out];rfl
   obtain ⟨w1,w2,m1,m2,S,b2⟩:=vX f w wr 0 0 rfl hk ht A.out HZ.out HB.out;have S':=hide S;have b2':=hide b2;clear S b2 ht;go_wp2;go_ret;exact ⟨_,_,_,rfl,S'.out,b2'.out,fun ad h=>by obtain rfl:=Option.some.inj h;simp⟩
  | succ k =>
   have c1:=A.out.cell k (by omega);obtain ⟨z,Hz⟩:∃ z,Hid (f k=z):=⟨_,rfl⟩;rw [Hz.out] at c1;by_cases h0:z=0
   ·subst h0
    have HN:Hid (ek f k=top f):=by show _=_;rw [<- HT.out];conv=>rhs;unfold ek;rw [if_pos Hz.out]
    go_wp2;go_roundw
    case rel=>exact ⟨k,by omega,by go_num,HN,A,HZ,HB⟩
    case measure=>simp [intOf]
   ·have ht:k+1=top f:=by rw [<- HT.out];unfold ek;rw [Hz.out,if_neg h0]
    have lF:(z == 0)=false:=by simpa using h0
    obtain ⟨w1,w2,m1,m2,S,b2⟩:=vX f w wr (k+1) ((k:Int)+1) (by omega) hk ht A.out HZ.out HB.out;have S':=hide S;have b2':=hide b2;clear S b2 ht h0
    have q1:(k:Int)+1 <= 16:=by omega
    have q0:0 <= (k:Int)+1:=by omega
    go_wp2;go_ret;exact ⟨_,_,_,rfl,S'.out,b2'.out,fun ad h=>by obtain rfl:=Option.some.inj h;simp⟩
theorem zdP {a b c:World} (h1:Below a.heap.size a b) (h2:Below b.heap.size b c):Below a.heap.size a c:=h1.trans (h2.mono h1.size)

theorem vr (ao:Option Addr) (n cap:Nat) (Z:List Int) (w:World) (hS:Src w ao n cap Z) :
  Calls Tryz.prog 93 #[.slice ao n cap] w fun e w'=>pe w w' e (aH (at' Z)):=by
 have HS:=hide hS;clear hS;go_enter Tryz.func93,Tryz.ntmps93;go_wp2_with fail;refine (zdd ao n cap Z _ HS.out).mono ?_;rintro e w1 ⟨rfl,b1⟩;go_wp2_with fail;refine (zet (at' Z) _).mono ?_;rintro e w2 ⟨ao2,n2,c2,rfl,S2,b2,f2⟩;have B:=hide (zdP b1 b2);have S:=hide S2;have F:=hide (fun ad h=>Nat.le_trans b1.size (f2 ad h));clear b1 b2 S2 f2;go_wp2_with fail;go_ret;exact ⟨_,_,_,rfl,S.out,B.out,F.out⟩
theorem Src.off {w w':World} {ao:Option Addr} {n c:Nat} {Z:List Int} (h:Src w ao n c Z) (hk:∀ ad,ao=some ad -> w'.heap[ad.block]? = w.heap[ad.block]?):Src w' ao n c Z:=
 ⟨h.1,h.2.1,fun ad ha t ht=>by rw [<- h.2.2 ad ha t ht];unfold World.cell?;rw [zp,hk ad ha]⟩
end
end Go.Proofs.YtcilfelgpmfehaaGreat.V
namespace Go.Proofs.YtcilfelgpmfehaaGreat
section
open Go.RowKit

theorem vY {w:World} {ao:Option Addr} {n c:Nat} {Z:List Int} (S:V.Src w ao n c Z) (k:Nat) (h:k < n):∃ ad,ao=some ad/\w.cell? (ad.add k)=some (.int .i64 (Z.getD k 0)):=by
 cases ao with
 | none=>have:=S.2.1 rfl;omega
 | some ad=>exact ⟨ad,rfl,S.2.2 ad rfl k h⟩
def ics (L:List Int):List Value:=L.map (Value.int .i64)
theorem zca (L M:List Int):ics (L++M)=ics L++ics M:=by simp [ics]
theorem kG (L:List Int):(ics L).length=L.length:=by simp [ics]
theorem zf0 (L:List Int):∀ u∈ics L,u.oneCell'=true:=by
 intro u hu;obtain ⟨z,_,rfl⟩:=List.mem_map.1 hu;rfl
theorem zfA (L:List Int) (t:Nat) (ht:t < L.length):(ics L)[t]? = some (.int .i64 (L.getD t 0)):=by
 simp [ics,ht,List.getD]
structure eB (B0 B:Nat) (w w':World) (ao:Option Addr) (cap:Nat) (acc:List Int):Prop where
 own:w'.ownsRow B 3 1 (.slice ao acc.length cap) acc.length (ics acc)
 below:Below B0 w w'
 hB:B <= w'.heap.size
 hB0:B0 <= B
theorem eB.nil {B0 B:Nat} {w w':World} (hb:Below B0 w w') (hB:B <= w'.heap.size) (h0:B0 <= B):eB B0 B w w' none 0 []:=
 ⟨World.ownsRow_nil _ _ _ _,hb,hB,h0⟩
theorem eB.later {B0 B:Nat} {w w' w2:World} {ao:Option Addr} {cap:Nat} {acc:List Int} (O:eB B0 B w w' ao cap acc) (hb:Below w'.heap.size w' w2):eB B0 B w w2 ao cap acc:=by
 refine ⟨⟨O.own.1,?_⟩,O.below.trans (hb.mono (Nat.le_trans O.hB0 O.hB)),Nat.le_trans O.hB hb.size,O.hB0⟩;rcases O.own.2 with h | ⟨g,cap2,cur,hv,dV,dB,r⟩
 ·exact Or.inl h
 ·exact Or.inr ⟨g,cap2,cur,hv,dV,(hb.block g (Array.getElem?_eq_some_iff.1 dB).1).trans dB,r⟩
theorem DQ:(Tryz.prog.info? 3).map (fun i=>(i.zero,i.size,i.bytes))=some (some (.int .i64 0),1,8):=by kernel_rfl
theorem eB.src {B0 B:Nat} {w w':World} {ao:Option Addr} {cap:Nat} {acc:List Int} (O:eB B0 B w w' ao cap acc):V.Src w' ao acc.length cap acc/\(∀ ad,ao=some ad -> B <= ad.block)/\acc.length <= cap/\cap <= maxLen:=by
 rcases O.own.2 with ⟨h0,eU⟩ | ⟨g,cap2,cur,hv,dV,dB,hnc,fw,hcsz,htake⟩
 ·simp only [Value.slice.injEq] at h0;obtain ⟨rfl,e0,rfl⟩:=h0;exact ⟨⟨rfl,fun _=>⟨eU,rfl⟩,fun ad h=>(by cases h)⟩,fun ad h=>(by cases h),by omega,by unfold maxLen;omega⟩
 ·simp only [Value.slice.injEq,true_and] at hv;obtain ⟨rfl,rfl⟩:=hv;refine ⟨⟨rfl,fun h=>(by cases h),fun ad h t ht=>?_⟩,fun ad h=>by obtain rfl:=Option.some.inj h;exact dV,hnc,fw⟩;obtain rfl:=Option.some.inj h;rw [Addr.add_lit,Nat.zero_add,O.own.cellAt t (by omega),zfA acc t ht]
end
section

def mem (a:List Rn) (n:Int):Prop:=1 <= n/\n <= 1000000000/\∃ r,r∈a/\r.lo <= n/\n <= r.hi
def form:Int -> List Rn -> Prop
 | _,[]=>True
 | l,r :: a=>l <= r.lo/\r.lo <= r.hi/\r.hi <= 1000000000/\form (r.hi+2) a
theorem qN (n:Int):¬ mem [] n:=fun ⟨_,_,r,h,_⟩=>by cases h
theorem mem_cons (r:Rn) (a:List Rn) (n:Int):mem (r :: a) n↔(1 <= n/\n <= 1000000000/\r.lo <= n/\n <= r.hi)∨mem a n:=by
 constructor
 ·rintro ⟨h1,h2,x,hx,h3⟩;rcases List.mem_cons.1 hx with e | e
  ·subst e;exact Or.inl ⟨h1,h2,h3⟩
  ·exact Or.inr ⟨h1,h2,x,e,h3⟩
 ·rintro (⟨h1,h2,h3⟩ | ⟨h1,h2,x,hx,h3⟩)
  ·exact ⟨h1,h2,r,List.mem_cons_self ..,h3⟩
  ·exact ⟨h1,h2,x,List.mem_cons_of_mem _ hx,h3⟩
theorem mem_append (a b:List Rn) (n:Int):mem (a++b) n↔mem a n∨mem b n:=by
 constructor
 ·rintro ⟨h1,h2,x,hx,h3⟩;rcases List.mem_append.1 hx with e | e
  ·exact Or.inl ⟨h1,h2,x,e,h3⟩
  ·exact Or.inr ⟨h1,h2,x,e,h3⟩
 ·rintro (⟨h1,h2,x,hx,h3⟩ | ⟨h1,h2,x,hx,h3⟩)
  ·exact ⟨h1,h2,x,List.mem_append_left _ hx,h3⟩
  ·exact ⟨h1,h2,x,List.mem_append_right _ hx,h3⟩
theorem qq (r:Rn) (n:Int):mem [r] n↔1 <= n/\n <= 1000000000/\r.lo <= n/\n <= r.hi:=by
 rw [mem_cons];exact ⟨fun h=>h.elim id (fun h=>absurd h (qN n)),Or.inl⟩
theorem zdc {a b:List Rn} (h:∀ r,r∈a↔r∈b) (n:Int):mem a n↔mem b n:=
 ⟨fun ⟨h1,h2,x,hx,h3⟩=>⟨h1,h2,x,(h x).1 hx,h3⟩,fun ⟨h1,h2,x,hx,h3⟩=>⟨h1,h2,x,(h x).2 hx,h3⟩⟩
theorem jv {l l':Int} (hl:l' <= l):∀ {a:List Rn},form l a -> form l' a
 | [],_=>trivial
 | _ :: _,h=>⟨Int.le_trans hl h.1,h.2⟩
theorem xV:∀ {a:List Rn} {l:Int} {n:Int},form l a -> mem a n -> l <= n
 | [],_,n,_,h=>absurd h (qN n)
 | r :: a,l,n,hf,h=>by
  rcases (mem_cons r a n).1 h with h | h
  ·have:=hf.1;omega
  ·have:=xV hf.2.2.2 h;have:=hf.1;have:=hf.2.1;omega
theorem j3:∀ {a b:List Rn} {l:Int},1 <= l -> form l a -> form l b -> (∀ n,mem a n↔mem b n) -> a=b
 | [],[],_,_,_,_,_=>rfl
 | [],s :: b,l,hl,_,hb,h=>absurd ((h s.lo).2 ((mem_cons s b s.lo).2 (Or.inl ⟨by have:=hb.1;omega,by have:=hb.2;omega,Int.le_refl _,hb.2.1⟩))) (qN _)
 | r :: a,[],l,hl,ha,_,h=>absurd ((h r.lo).1 ((mem_cons r a r.lo).2 (Or.inl ⟨by have:=ha.1;omega,by have:=ha.2;omega,Int.le_refl _,ha.2.1⟩))) (qN _)
 | r :: a,s :: b,l,hl,ha,hb,h=>by
  have a1:=ha.1;have a2:=ha.2.1;have a3:=ha.2.2.1;have a4:=ha.2.2.2;have b1:=hb.1;have b2:=hb.2.1;have b3:=hb.2.2.1;have b4:=hb.2.2.2
  have ge:∀ {x:Rn} {c:List Rn} {n:Int},form (x.hi+2) c -> x.lo <= x.hi -> mem (x :: c) n -> x.lo <= n:=fun {x c n} hf hx hm=>by
   rcases (mem_cons x c n).1 hm with e | e
   ·exact e.2.2.1
   ·have:=xV hf e;omega
  have e1:s.lo <= r.lo:=ge b4 b2 ((h r.lo).1 ((mem_cons r a r.lo).2 (Or.inl ⟨by omega,by omega,Int.le_refl _,a2⟩)));have e2:r.lo <= s.lo:=ge a4 a2 ((h s.lo).2 ((mem_cons s b s.lo).2 (Or.inl ⟨by omega,by omega,Int.le_refl _,b2⟩)))
  have e3:¬ r.hi < s.hi:=fun aq=>by
   have:=(h (r.hi+1)).2 ((mem_cons s b _).2 (Or.inl ⟨by omega,by omega,by omega,by omega⟩));rcases (mem_cons r a _).1 this with e | e
   ·omega
   ·have:=xV a4 e;omega
  have e4:¬ s.hi < r.hi:=fun aq=>by
   have:=(h (s.hi+1)).1 ((mem_cons r a _).2 (Or.inl ⟨by omega,by omega,by omega,by omega⟩));rcases (mem_cons s b _).1 this with e | e
   ·omega
   ·have:=xV b4 e;omega
  have er:r=s:=by
   obtain ⟨r1,r2⟩:=r;obtain ⟨s1,s2⟩:=s;simp at e1 e2 e3 e4;rw [show r1=s1 by omega,show r2=s2 by omega]
  subst er;rw [j3 (l:=r.hi+2) (by omega) a4 b4 (fun n=>?_)];constructor
  ·intro hm;have sZ:=xV a4 hm;rcases (mem_cons r b n).1 ((h n).1 ((mem_cons r a n).2 (Or.inr hm))) with e | e
   ·omega
   ·exact e
  ·intro hm;have sZ:=xV b4 hm;rcases (mem_cons r a n).1 ((h n).2 ((mem_cons r b n).2 (Or.inr hm))) with e | e
   ·omega
   ·exact e
theorem zbA:∀ {a:List Rn} {l:Int},form l a -> a=[]∨2 * (a.length:Int)+l <= 1000000002
 | [],_,_=>Or.inl rfl
 | r :: a,l,h=>by
  right;have h1:=h.1;have h2:=h.2.1;have h3:=h.2.2.1;rcases zbA h.2.2.2 with e | e
  ·subst e;simp;omega
  ·simp only [List.length_cons];omega
theorem x7 {a:List Rn} {l:Int} (hl:1 <= l) (h:form l a):a.length <= 500000001:=by
 rcases zbA h with e | e
 ·subst e;simp
 ·omega
def aZ (a R:List Rn):Prop:=form 1 R/\∀ n,mem R n↔mem a n
theorem aZ.unique {a R R':List Rn} (h:aZ a R) (h':aZ a R'):R=R':=j3 (Int.le_refl _) h.1 h'.1 (fun n=>(h.2 n).trans (h'.2 n).symm)
theorem aZ.self {a:List Rn} (h:form 1 a):aZ a a:=⟨h,fun _=>Iff.rfl⟩
theorem kp:∀ {i:List Rn} {l:Int} {x r:Rn},form l (i++[x]) -> x.hi+2 <= r.lo -> r.lo <= r.hi -> r.hi <= 1000000000 -> form l (i++[x]++[r])
 | [],_,_,_,h,h1,h2,h3=>⟨h.1,h.2.1,h.2.2.1,h1,h2,h3,trivial⟩
 | _ :: _,_,_,_,h,h1,h2,h3=>⟨h.1,h.2.1,h.2.2.1,kp h.2.2.2 h1 h2 h3⟩
theorem zdo:∀ {i:List Rn} {l:Int} {x y:Rn},form l (i++[x]) -> y.lo=x.lo -> x.hi <= y.hi -> y.hi <= 1000000000 -> form l (i++[y])
 | [],_,_,_,h,h1,h2,h3=>⟨by have:=h.1;omega,by have:=h.2.1;omega,h3,trivial⟩
 | _ :: _,_,_,_,h,h1,h2,h3=>⟨h.1,h.2.1,h.2.2.1,zdo h.2.2.2 h1 h2 h3⟩
theorem v8:∀ {i:List Rn} {l:Int} {x:Rn},form l (i++[x]) -> l <= x.lo/\x.lo <= x.hi/\x.hi <= 1000000000
 | [],_,_,h=>⟨h.1,h.2.1,h.2.2.1⟩
 | r :: i,l,x,h=>by have:=v8 h.2.2.2;have:=h.1;have:=h.2.1;omega
def gI (r:Rn):Rn:=⟨max r.lo 1,min r.hi 1000000000⟩
def fA (a:List Rn):List Rn:=(a.map gI).filter (fun c=>decide (c.lo <= c.hi))
theorem zam (a:List Rn) (n:Int):mem (fA a) n↔mem a n:=by
 constructor
 ·rintro ⟨h1,h2,x,hx,h3⟩;obtain ⟨hm,_⟩:=List.mem_filter.1 hx;obtain ⟨r,hr,rfl⟩:=List.mem_map.1 hm;unfold gI at h3;exact ⟨h1,h2,r,hr,by simp at h3;omega,by simp at h3;omega⟩
 ·rintro ⟨h1,h2,r,hr,h3⟩
  have hc:(gI r).lo <= n/\n <= (gI r).hi:=by unfold gI;simp;omega
  exact ⟨h1,h2,gI r,List.mem_filter.2 ⟨List.mem_map.2 ⟨r,hr,rfl⟩,decide_eq_true (by omega)⟩,hc⟩
theorem zeY (a:List Rn) (x:Rn) (h:x∈fA a):1 <= x.lo/\x.lo <= x.hi/\x.hi <= 1000000000:=by
 obtain ⟨hm,hd⟩:=List.mem_filter.1 h;obtain ⟨r,_,rfl⟩:=List.mem_map.1 hm;have:=of_decide_eq_true hd;unfold gI at *;simp at *;omega
structure dL (P acc:List Rn):Prop where
 frm:form 1 acc
 mm:∀ n,mem acc n↔mem P n
 low:∀ x,x∈acc -> ∃ p,p∈P/\x.lo=p.lo
theorem dL.start:dL [] []:=⟨trivial,fun _=>Iff.rfl,fun x h=>by cases h⟩
theorem dL.first {P:List Rn} {r:Rn} (h:dL P []) (h1:1 <= r.lo) (h2:r.lo <= r.hi) (h3:r.hi <= 1000000000):dL (P++[r]) [r]:=by
 refine ⟨⟨h1,h2,h3,trivial⟩,fun n=>?_,fun x hx=>?_⟩
 ·rw [mem_append,<- h.mm n];exact ⟨Or.inr,fun e=>e.elim (fun e=>absurd e (qN n)) id⟩
 ·obtain rfl:=List.mem_singleton.1 hx;exact ⟨x,by simp,rfl⟩
theorem dL.new {P i:List Rn} {x r:Rn} (h:dL P (i++[x])) (hg:¬ r.lo <= x.hi+1) (h2:r.lo <= r.hi) (h3:r.hi <= 1000000000):dL (P++[r]) (i++[x]++[r]):=by
 refine ⟨kp h.frm (by omega) h2 h3,fun n=>?_,fun y hy=>?_⟩
 ·rw [mem_append,mem_append P,h.mm n]
 ·rcases List.mem_append.1 hy with e | e
  ·obtain ⟨p,hp,e⟩:=h.low y e;exact ⟨p,List.mem_append_left _ hp,e⟩
  ·obtain rfl:=List.mem_singleton.1 e;exact ⟨y,by simp,rfl⟩
theorem dL.join {P i:List Rn} {x r:Rn} (h:dL P (i++[x])) (hs:∀ p,p∈P -> p.lo <= r.lo) (hg:r.lo <= x.hi+1) (_:r.lo <= r.hi) (h3:r.hi <= 1000000000):dL (P++[r]) (i++[⟨x.lo,max x.hi r.hi⟩]):=by
 have hl:=v8 h.frm
 have NL:x.lo <= r.lo:=by obtain ⟨p,hp,e⟩:=h.low x (by simp);have:=hs p hp;omega
 refine ⟨zdo h.frm rfl (by simp;omega) (by simp;omega),fun n=>?_,fun y hy=>?_⟩
 ·have:=h.mm n;rw [mem_append,qq] at this;rw [mem_append,qq,mem_append P,qq,<- this];simp only;constructor
  ·rintro (e | ⟨e1,e2,e3,e4⟩)
   ·exact Or.inl (Or.inl e)
   ·by_cases c:n <= x.hi
    ·exact Or.inl (Or.inr ⟨e1,e2,e3,c⟩)
    ·exact Or.inr ⟨e1,e2,by omega,by omega⟩
  ·rintro ((e | ⟨e1,e2,e3,e4⟩) | ⟨e1,e2,e3,e4⟩)
   ·exact Or.inl e
   ·exact Or.inr ⟨e1,e2,e3,by omega⟩
   ·exact Or.inr ⟨e1,e2,by omega,by omega⟩
 ·rcases List.mem_append.1 hy with e | e
  ·obtain ⟨p,hp,e⟩:=h.low y (List.mem_append_left _ e);exact ⟨p,List.mem_append_left _ hp,e⟩
  ·obtain rfl:=List.mem_singleton.1 e;obtain ⟨p,hp,e⟩:=h.low x (by simp);exact ⟨p,List.mem_append_left _ hp,e⟩
end
section
open Go.RowKit

structure Sl where
 ao:Option Addr
 n:Nat
 cap:Nat
 L:List Rn
def tot:List Sl -> Nat
 | []=>0
 | s :: r=>s.n+tot r
def cat:List Sl -> List Rn
 | []=>[]
 | s :: r=>s.L++cat r
structure DP (w:World) (ao:Option Addr) (q:Nat) (X:List Sl):Prop where
 len:X.length=q
 nil:ao=none -> q=0
 cell:∀ ad,ao=some ad -> ∀ t s,X[t]? = some s -> w.cell? (ad.add t)=some (.slice s.ao s.n s.cap)
 src:∀ s,s∈X -> aU w s.ao s.n s.cap s.L
 big:q <= 8796093022207
theorem DP.at {w:World} {ao:Option Addr} {q:Nat} {X:List Sl} (h:DP w ao q X) (k:Nat) (hk:k < q):∃ ad s,ao=some ad/\X[k]? = some s/\w.cell? (ad.add k)=some (.slice s.ao s.n s.cap)/\aU w s.ao s.n s.cap s.L:=by
 have iQ:k < X.length:=by rw [h.len];exact hk
 cases ao with
 | none=>have:=h.nil rfl;omega
 | some ad=>exact ⟨ad,X[k],rfl,List.getElem?_eq_getElem iQ,h.cell ad rfl k _ (List.getElem?_eq_getElem iQ),h.src _ (List.getElem_mem iQ)⟩
end
section
open Go.RowKit

structure Sn where
 rep:Int
 lo:Int
 hi:Int
instance:DecidableEq Sn:=fun a b=>decidable_of_iff (a.rep=b.rep/\a.lo=b.lo/\a.hi=b.hi) ⟨fun ⟨h1,h2,h3⟩=>by cases a;cases b;simp_all,fun h=>by subst h;exact ⟨rfl,rfl,rfl⟩⟩
def sn0:Sn:=⟨0,0,0⟩
instance:Inhabited Sn:=⟨sn0⟩
def SC (s:Sn):Array Value:=#[.int .i64 s.rep,.int .i64 s.lo,.int .i64 s.hi]
abbrev SV (s:Sn):Value:=.agg (SC s)
theorem qy (s:Sn):(SC s).size=3:=rfl
theorem zdS (s:Sn):∀ v∈(SC s).toList,v.oneCell'=true:=by
 intro v hv;simp [SC] at hv;rcases hv with rfl | rfl | rfl <;> rfl
theorem qi (s:Sn):(SV s).cells=SC s:=by simp [Value.cells]
theorem qS:(#[.int .i64 0,.int .i64 0,.int .i64 0]:Array Value)=SC sn0:=rfl
theorem xW (s:Sn):Array.foldl (fun cs x=>cs.setIfInBounds x.snd x.fst) (SC sn0) (SC s).zipIdx 0 3=SC s:=rfl
theorem bp (x y z:Int):(((SC sn0).setIfInBounds 0 (.int .i64 x)).setIfInBounds 1 (.int .i64 y)).setIfInBounds 2 (.int .i64 z)=SC ⟨x,y,z⟩:=rfl
structure gA (w:World) (p:Addr) (s:Sn):Prop where
 c0:w.cell? p=some (.int .i64 s.rep)
 c1:w.cell? (p.add 1)=some (.int .i64 s.lo)
 c2:w.cell? (p.add 2)=some (.int .i64 s.hi)
theorem gA.on {w w':World} {p:Addr} {s:Sn} (S:gA w p s) (hb:Below w.heap.size w w'):gA w' p s:=by
 have h0:=World.block_lt_of_cell? _ _ S.c0;exact ⟨by rw [hb.cell h0];exact S.c0,by rw [hb.cell (by rw [zp];exact h0)];exact S.c1,by rw [hb.cell (by rw [zp];exact h0)];exact S.c2⟩
def cZ (w:World) (g:Nat) (s:Sn):Prop:=w.heap[g]? = some (.cells (SC s) 69 (0,0))
theorem cZ.lt {w:World} {g:Nat} {s:Sn} (h:cZ w g s):g < w.heap.size:=(Array.getElem?_eq_some_iff.1 h).1
theorem cZ.at {w:World} {g:Nat} {s:Sn} (h:cZ w g s):w.cell? ⟨g,0,none⟩=some (.int .i64 s.rep)/\w.cell? ⟨g,1,none⟩=some (.int .i64 s.lo)/\w.cell? ⟨g,2,none⟩=some (.int .i64 s.hi):=by
 unfold cZ at h;refine ⟨?_,?_,?_⟩ <;> simp [World.cell?,h,SC]
theorem cZ.below {w w':World} {g:Nat} {s:Sn} (h:cZ w g s) (hb:Below w.heap.size w w'):cZ w' g s:=(hb.block g h.lt).trans h
theorem qF (w:World) (s:Sn):cZ (w.alloc (.cells (SC s) 69)) w.heap.size s:=by unfold cZ;rw [heap_alloc_new]
def ldS (v:Value):Sem Value:=Instr.loadAt 69 v
theorem qX (v:Value):Instr.loadAt 69 v=ldS v:=rfl
def stS (p v:Value):Sem Unit:=Instr.storeAt 69 p v
theorem xu (p v:Value):Instr.storeAt 69 p v=stS p v:=rfl
theorem nv:(Tryz.prog.info? 69).map (·.size)=some 3:=by kernel_rfl
theorem pQ:(Tryz.prog.info? 69).map (fun i=>(i.zero,i.size,i.bytes))=some (some (.agg #[.int .i64 0,.int .i64 0,.int .i64 0]),3,24):=by kernel_rfl
theorem zS {w:World} {p:Addr} {s:Sn} (A:gA w p s):(ldS (.pointer (some p))).run Tryz.prog w = .ok (SV s) w:=by
 have hl:=run_loadCells_list (P:=Tryz.prog) (w:=w) p (SC s).toList (fun j v hv=>by
  match j,hv with
  | 0,hv=>cases hv;rw [add_zero];exact A.c0
  | 1,hv=>cases hv;exact A.c1
  | 2,hv=>cases hv;exact A.c2
  | j+3,hv=>simp [SC] at hv)
 unfold ldS;simp only [Instr.loadAt,Instr.sureAddr,Sem.run_bind,Sem.run_pure,Result.andThen]
 cases hq:Tryz.prog.info? 69 with
 | none=>have:=nv;simp [hq] at this
 | some x =>
  have hs:x.size=3:=by have:=nv;simpa [hq] using this
  have eL:(isAgg 69).run Tryz.prog w = .ok true w:=by
   unfold isAgg;rw [Sem.run_bind,run_underlying Tryz.underlying69 w];rfl
  have e2:(SC s).toList.length=3:=rfl;rw [e2] at hl;simp [loadVar,Sem.run_bind,eL,sizeOf,typeInfo,hq,hs,hl,SV]
theorem yG {w:World} {g:Nat} {s s':Sn} (A:cZ w g s):(stS (.pointer (some ⟨g,0,none⟩)) (SV s')).run Tryz.prog w = .ok () (w.setRow g (SC s')):=by
 unfold stS;have h:=run_storeCells_from (P:=Tryz.prog) g 69 (SC s').toList 0 (SC s) w A (by simp [SC]) (zdS s')
 cases hq:Tryz.prog.info? 69 with
 | none=>have:=nv;simp [hq] at this
 | some x =>
  have hs:x.size=3:=by have:=nv;simpa [hq] using this
  simp only [Instr.storeAt,Instr.sureAddr,Sem.run_bind,Sem.run_pure,Result.andThen,storeVar,sizeOf,typeInfo,qi,qy];simp at h;simp [h,hq,hs]
theorem fI (w:World) (s:Sn) (g:Nat) (hg:w.heap.size=g):∃ w':World,(stS (.pointer (some ⟨g,0,none⟩)) (SV s)).run Tryz.prog (w.alloc (.cells (SC sn0) 69)) = .ok () w'/\cZ w' g s/\Below w.heap.size w w'/\w'.heap.size=w.heap.size+1:=by
 subst hg;exact ⟨_,yG (qF w sn0),setRow_heap _ _ _ _ _ _ (qF w sn0),zg (ze w _) (Nat.le_refl _),by simp [World.setRow]⟩
structure cJ (w:World) (ao:Option Addr) (m c:Nat) (L:List Sn):Prop where
 len:L.length=m
 nil:ao=none -> m=0/\c=0
 cell:∀ ad,ao=some ad -> ∀ t,t < m -> gA w (ad.add (t * 3)) (L.getD t sn0)
 big:m <= 5864062014805
 cap:m <= c
theorem cJ.below {w w':World} {ao:Option Addr} {m c:Nat} {L:List Sn} (h:cJ w ao m c L) (hb:Below w.heap.size w w'):cJ w' ao m c L:=
 ⟨h.len,h.nil,fun ad ha t ht=>(h.cell ad ha t ht).on hb,h.big,h.cap⟩
theorem cJ.at {w:World} {ao:Option Addr} {m c:Nat} {L:List Sn} (h:cJ w ao m c L) (k:Nat) (hk:k < m):∃ ad,ao=some ad/\gA w (ad.add (k * 3)) (L.getD k sn0):=by
 cases ao with
 | none=>have:=h.nil rfl;omega
 | some ad=>exact ⟨ad,rfl,h.cell ad rfl k hk⟩
theorem cJ.empty (w:World):cJ w none 0 0 []:=⟨rfl,fun _=>⟨rfl,rfl⟩,(fun ad h=>by cases h),by omega,Nat.le_refl _⟩
theorem cJ.spot {w:World} {ad:Addr} {m c:Nat} {L:List Sn} (h:cJ w (some ad) m c L) (hm:0 < m):∃ b o,ad=⟨b,o,none⟩:=by
 have:=World.cell?_spot (h.cell ad rfl 0 hm).c0;obtain ⟨b,o,s⟩:=ad
 have hs:s=none:=by simpa [Addr.add] using this
 exact ⟨b,o,by rw [hs]⟩
theorem cJ.off {w w':World} {ao:Option Addr} {m c:Nat} {L:List Sn} (h:cJ w ao m c L) (hk:∀ ad,ao=some ad -> w'.heap[ad.block]? = w.heap[ad.block]?):cJ w' ao m c L:=by
 refine ⟨h.len,h.nil,fun ad ha t ht=>?_,h.big,h.cap⟩;have A:=h.cell ad ha t ht
 have e:∀ m,w'.cell? (ad.add m)=w.cell? (ad.add m):=fun m=>by unfold World.cell?;rw [zp,hk ad ha]
 exact ⟨by rw [e];exact A.c0,by have:=A.c1;rw [qt] at this ⊢;rw [e];exact this,by have:=A.c2;rw [qt] at this ⊢;rw [e];exact this⟩
def scs (L:List Sn):List Value:=(L.map (fun r=>(SC r).toList)).flatten
theorem wQ (L R:List Sn):scs (L++R)=scs L++scs R:=by simp [scs]
theorem zfK (r:Sn):scs [r]=(SC r).toList:=by simp [scs]
theorem wP (L:List Sn):(scs L).length=L.length * 3:=by
 induction L with
 | nil=>rfl
 | cons a L ih=>have:scs (a :: L)=(SC a).toList++scs L:=rfl;rw [this,List.length_append,ih];simp [SC];omega
theorem zfo (L:List Sn) (t j:Nat) (ht:t < L.length) (hj:j < 3):(scs L)[t * 3+j]? = (SC (L.getD t sn0)).toList[j]?:=by
 induction L generalizing t with
 | nil=>simp at ht
 | cons a L ih =>
  have e:scs (a :: L)=(SC a).toList++scs L:=rfl
  cases t with
  | zero=>rw [e,List.getElem?_append_left (by simp [SC];omega)];simp [List.getD]
  | succ t =>
   rw [e,List.getElem?_append_right (by simp [SC];omega)];have h:=ih t (by simpa using ht)
   have e4:(t+1) * 3+j - (SC a).toList.length=t * 3+j:=by simp [SC];omega
   rw [e4,h];simp [List.getD]
structure dR (B0 B:Nat) (w w':World) (ao:Option Addr) (cap:Nat) (acc:List Sn):Prop where
 own:w'.ownsRow B 69 3 (.slice ao acc.length cap) acc.length (scs acc)
 below:Below B0 w w'
 hB:B <= w'.heap.size
 hB0:B0 <= B
theorem dR.nil {B0 B:Nat} {w w':World} (hb:Below B0 w w') (hB:B <= w'.heap.size) (h0:B0 <= B):dR B0 B w w' none 0 []:=
 ⟨World.ownsRow_nil _ _ _ _,hb,hB,h0⟩
theorem dR.append {B0 B:Nat} {w w':World} {ao:Option Addr} {cap:Nat} {acc:List Sn} (O:dR B0 B w w' ao cap acc) (e:Sn) (C:Array Value) (hC:C=SC e) (cP:acc.length < 5864062014805)
  {ops:Array Oper} {rest:List Oper} {o:Oper} {a:Act} {Q:Exit -> Act -> World -> Prop} (hgd:o.guard=none) (s x:Operand) (ho:o.op = .call { callee:=.builtin .append,args:=#[s,x],argTypes:=#[24,24] })
  (n:Nat) (hn:acc.length=n) (hs:a.eval s = .slice ao n cap) (hx:a.eval x = .slice (some ⟨w'.heap.size,0,none⟩) 1 1)
  (hK:∀ (g cap2:Nat) (w2:World),dR B0 B w w2 (some ⟨g,0,none⟩) cap2 (acc++[e]) -> (∀ k,k < w'.heap.size -> (Value.slice ao acc.length cap).ownBlock≠some k -> w2.heap[k]? = w'.heap[k]? /\ g≠k) -> wpList Tryz.prog ops Q rest (a.put o.dst (.slice (some ⟨g,0,none⟩) (n+1) cap2)) w2) :
  wpList Tryz.prog ops Q (o :: rest) a (w'.alloc (.cells C 69)):=by
 subst hn hC;obtain ⟨i0,hi,dn,dm,ef⟩:=info_parts pQ;have hB:=O.hB;have hB0:=O.hB0;refine wpList_append_own_at _ hgd s x 24 ho B 69 i0 (.agg #[.int .i64 0,.int .i64 0,.int .i64 0]) 3 24 Tryz.underlying24 hi dn dm ef rfl (by decide) _ acc.length (scs acc) hs (O.own.alloc _) ⟨w'.heap.size,0,none⟩ 1 1 (SC e).toList hx (by simp [SC]) ?_ ?_ (by unfold maxLen;omega) (by omega) (by simp;omega) ?_
 ·intro j u hj;rw [Addr.add_lit,Nat.zero_add,World.cell?_alloc_new];simpa using hj
 ·intro u hu;exact zdS e u hu
 ·intro v' w2 cp aC _ fj
  rcases cp.2 with ⟨h0,eU⟩ | ⟨g,cap2,cur,hv,r⟩
  ·omega
  ·subst hv;have dv:∀ k,(Value.slice ao acc.length cap).ownBlock=some k -> B <= k:=fun k hk=>(O.own.lt k hk).1;have eE:=aC.size;rw [World.size_alloc] at eE;refine hK g cap2 w2 ⟨?_,(O.below.alloc (by omega) _).grown aC (by simp;omega) (fun k hk=>by have:=dv k hk;omega),by omega,hB0⟩ (fun k hk aT=>?_)
   ·rw [List.length_append,wQ,zfK];exact cp
   ·refine ⟨?_,fun e=>?_⟩
    ·rw [aC.block k (by simp;omega) (fun e=>aT e.symm)];exact Below.heap_alloc _ _ _ hk
    ·rcases fj with h | h
     ·exact aT (by rw [<- h,<- e];rfl)
     ·simp [Value.ownBlock] at h;omega
theorem dR.later {B0 B:Nat} {w w' w2:World} {ao:Option Addr} {cap:Nat} {acc:List Sn} (O:dR B0 B w w' ao cap acc) (hb:Below w'.heap.size w' w2):dR B0 B w w2 ao cap acc:=by
 refine ⟨⟨O.own.1,?_⟩,O.below.trans (hb.mono (Nat.le_trans O.hB0 O.hB)),Nat.le_trans O.hB hb.size,O.hB0⟩;rcases O.own.2 with h | ⟨g,cap2,cur,hv,dV,dB,r⟩
 ·exact Or.inl h
 ·exact Or.inr ⟨g,cap2,cur,hv,dV,(hb.block g (Array.getElem?_eq_some_iff.1 dB).1).trans dB,r⟩
theorem dR.src {B0 B:Nat} {w w':World} {ao:Option Addr} {cap:Nat} {acc:List Sn} (O:dR B0 B w w' ao cap acc) (hl:acc.length <= 5864062014805):cJ w' ao acc.length cap acc/\∀ ad,ao=some ad -> B <= ad.block:=by
 rcases O.own.2 with ⟨h0,eU⟩ | ⟨g,cap2,cur,hv,dV,dB,hnc,fw,hcsz,htake⟩
 ·simp only [Value.slice.injEq] at h0;obtain ⟨rfl,e0,rfl⟩:=h0;exact ⟨⟨rfl,fun _=>⟨eU,rfl⟩,(fun ad h=>by cases h),hl,by omega⟩,fun ad h=>(by cases h)⟩
 ·simp only [Value.slice.injEq,true_and] at hv;obtain ⟨rfl,rfl⟩:=hv
  have cell:∀ t j,t < acc.length -> j < 3 -> w'.cell? ⟨g,t * 3+j,none⟩=(SC (acc.getD t sn0)).toList[j]?:=fun t j ht hj=>by
   rw [O.own.cellAt (t * 3+j) (by omega),zfo _ t j ht hj]
  refine ⟨⟨rfl,fun h=>(by cases h),fun ad h t ht=>?_,hl,hnc⟩,fun ad h=>by obtain rfl:=Option.some.inj h;exact dV⟩;obtain rfl:=Option.some.inj h;refine ⟨?_,?_,?_⟩
  ·rw [Addr.add_lit,Nat.zero_add];exact cell t 0 ht (by omega)
  ·rw [Addr.add_lit,Addr.add_lit,Nat.zero_add];exact cell t 1 ht (by omega)
  ·rw [Addr.add_lit,Addr.add_lit,Nat.zero_add];exact cell t 2 ht (by omega)
structure Pst where
 vec:List Int
 cloud:List Sn
instance:DecidableEq Pst:=fun a b=>decidable_of_iff (a.vec=b.vec/\a.cloud=b.cloud) ⟨fun ⟨h1,h2⟩=>by cases a;cases b;simp_all,fun h=>by subst h;exact ⟨rfl,rfl⟩⟩
structure Pv where
 vo:Option Addr
 vn:Nat
 vc:Nat
 co:Option Addr
 cn:Nat
 cc:Nat
 P:Pst
def PC (p:Pv):Array Value:=#[.slice p.vo p.vn p.vc,.slice p.co p.cn p.cc]
abbrev PV (p:Pv):Value:=.agg (PC p)
def pv0:Pv:=⟨none,0,0,none,0,0,⟨[],[]⟩⟩
theorem zh (p:Pv):(PC p).size=2:=rfl
theorem zgY (p:Pv):∀ v∈(PC p).toList,v.oneCell'=true:=by
 intro v hv;simp [PC] at hv;rcases hv with rfl | rfl <;> rfl
theorem zf (p:Pv):(PV p).cells=PC p:=by simp [Value.cells]
theorem zw:(#[.slice none 0 0,.slice none 0 0]:Array Value)=PC pv0:=rfl
theorem zW (p:Pv):Array.foldl (fun cs x=>cs.setIfInBounds x.snd x.fst) (PC pv0) (PC p).zipIdx 0 2=PC p:=rfl
structure ak (w:World) (p:Pv):Prop where
 vec:V.Src w p.vo p.vn p.vc p.P.vec
 cloud:cJ w p.co p.cn p.cc p.P.cloud
 big:p.vn <= 17592186044415
theorem ak.below {w w':World} {p:Pv} (h:ak w p) (hb:Below w.heap.size w w'):ak w' p:=⟨h.vec.below hb,h.cloud.below hb,h.big⟩
theorem ak.zero (w:World):ak w pv0:=⟨⟨rfl,fun _=>⟨rfl,rfl⟩,fun ad h=>(by cases h)⟩,cJ.empty w,by simp [pv0]⟩
structure PAt (w:World) (a:Addr) (p:Pv):Prop where
 c0:w.cell? a=some (.slice p.vo p.vn p.vc)
 c1:w.cell? (a.add 1)=some (.slice p.co p.cn p.cc)
theorem PAt.on {w w':World} {a:Addr} {p:Pv} (S:PAt w a p) (hb:Below w.heap.size w w'):PAt w' a p:=by
 have h0:=World.block_lt_of_cell? _ _ S.c0;exact ⟨by rw [hb.cell h0];exact S.c0,by rw [hb.cell (by rw [zp];exact h0)];exact S.c1⟩
def aE (w:World) (g:Nat) (p:Pv):Prop:=w.heap[g]? = some (.cells (PC p) 26 (0,0))
theorem aE.lt {w:World} {g:Nat} {p:Pv} (h:aE w g p):g < w.heap.size:=(Array.getElem?_eq_some_iff.1 h).1
theorem aE.at {w:World} {g:Nat} {p:Pv} (h:aE w g p):PAt w ⟨g,0,none⟩ p:=by
 unfold aE at h;refine ⟨?_,?_⟩ <;> simp [Addr.add,World.cell?,h,PC]
theorem aE.nums {w:World} {g:Nat} {p:Pv} (h:aE w g p):w.cell? ⟨g,0,none⟩=some (.slice p.vo p.vn p.vc)/\w.cell? ⟨g,1,none⟩=some (.slice p.co p.cn p.cc):=by
 unfold aE at h;refine ⟨?_,?_⟩ <;> simp [World.cell?,h,PC]
theorem aE.below {w w':World} {g:Nat} {p:Pv} (h:aE w g p) (hb:Below w.heap.size w w'):aE w' g p:=(hb.block g h.lt).trans h
theorem zq (w:World) (p:Pv):aE (w.alloc (.cells (PC p) 26)) w.heap.size p:=by unfold aE;rw [heap_alloc_new]
def ldP (v:Value):Sem Value:=Instr.loadAt 26 v
theorem zl (v:Value):Instr.loadAt 26 v=ldP v:=rfl
def stP (p v:Value):Sem Unit:=Instr.storeAt 26 p v
theorem zk (p v:Value):Instr.storeAt 26 p v=stP p v:=rfl
theorem nB:(Tryz.prog.info? 26).map (·.size)=some 2:=by kernel_rfl
theorem zaF {w:World} {a:Addr} {p:Pv} (A:PAt w a p):(loadVar 26 a).run Tryz.prog w = .ok (PV p) w:=by
 have hl:=run_loadCells_list (P:=Tryz.prog) (w:=w) a (PC p).toList (fun j v hv=>by
  match j,hv with
  | 0,hv=>cases hv;rw [add_zero];exact A.c0
  | 1,hv=>cases hv;exact A.c1
  | j+2,hv=>simp [PC] at hv)
 cases hq:Tryz.prog.info? 26 with
 | none=>have:=nB;simp [hq] at this
 | some x =>
  have hs:x.size=2:=by have:=nB;simpa [hq] using this
  have eL:(isAgg 26).run Tryz.prog w = .ok true w:=by
   unfold isAgg;rw [Sem.run_bind,run_underlying Tryz.underlying26 w];rfl
  have e2:(PC p).toList.length=2:=rfl;rw [e2] at hl;simp [loadVar,Sem.run_bind,eL,sizeOf,typeInfo,hq,hs,hl,PV]
theorem zi {w:World} {a:Addr} {p:Pv} (A:PAt w a p):(ldP (.pointer (some a))).run Tryz.prog w = .ok (PV p) w:=by
 unfold ldP;simp only [Instr.loadAt,Instr.sureAddr,Sem.run_bind,Sem.run_pure,Result.andThen];exact zaF A
theorem qJ {w:World} {g:Nat} {p p':Pv} (A:aE w g p):(stP (.pointer (some ⟨g,0,none⟩)) (PV p')).run Tryz.prog w = .ok () (w.setRow g (PC p')):=by
 unfold stP;have h:=run_storeCells_from (P:=Tryz.prog) g 26 (PC p').toList 0 (PC p) w A (by simp [PC]) (zgY p')
 cases hq:Tryz.prog.info? 26 with
 | none=>have:=nB;simp [hq] at this
 | some x =>
  have hs:x.size=2:=by have:=nB;simpa [hq] using this
  simp only [Instr.storeAt,Instr.sureAddr,Sem.run_bind,Sem.run_pure,Result.andThen,storeVar,sizeOf,typeInfo,zf,zh];simp at h;simp [h,hq,hs]
theorem ip (w:World) (p:Pv) (g:Nat) (hg:w.heap.size=g):∃ w':World,(stP (.pointer (some ⟨g,0,none⟩)) (PV p)).run Tryz.prog (w.alloc (.cells (PC pv0) 26)) = .ok () w'/\aE w' g p/\Below w.heap.size w w'/\w'.heap.size=w.heap.size+1:=by
 subst hg;exact ⟨_,qJ (zq w pv0),setRow_heap _ _ _ _ _ _ (zq w pv0),zg (ze w _) (Nat.le_refl _),by simp [World.setRow]⟩
theorem eQ {fn:Func} {t:Tmp} {w:World} {g:Nat} {p:Pv} (h:fn.results=#[.cell t 26]) {tmps:Array Value} (hp:tmps.getD t undef = .pointer (some ⟨g,0,none⟩)) (A:aE w g p):(results fn tmps).run Tryz.prog w = .ok (PV p) w:=by
 have hl:=zaF A.at
 simp only [results,h];rw [Array.getD_eq_getD_getElem?] at hp;simp [hp,asAddr,hl]
structure eT (w:World) (ao:Option Addr) (q:Nat) (X:List Pv):Prop where
 len:X.length=q
 nil:ao=none -> q=0
 cell:∀ ad,ao=some ad -> ∀ t p,X[t]? = some p -> PAt w (ad.add (t * 2)) p
 src:∀ p,p∈X -> ak w p
theorem eT.below {w w':World} {ao:Option Addr} {q:Nat} {X:List Pv} (h:eT w ao q X) (hb:Below w.heap.size w w'):eT w' ao q X:=
 ⟨h.len,h.nil,fun ad ha t p hs=>(h.cell ad ha t p hs).on hb,fun p hp=>(h.src p hp).below hb⟩
theorem eT.at {w:World} {ao:Option Addr} {q:Nat} {X:List Pv} (h:eT w ao q X) (k:Nat) (hk:k < q):∃ ad p,ao=some ad/\X[k]? = some p/\PAt w (ad.add (k * 2)) p/\ak w p:=by
 have iQ:k < X.length:=by rw [h.len];exact hk
 cases ao with
 | none=>have:=h.nil rfl;omega
 | some ad=>exact ⟨ad,X[k],rfl,List.getElem?_eq_getElem iQ,h.cell ad rfl k _ (List.getElem?_eq_getElem iQ),h.src _ (List.getElem_mem iQ)⟩
def pcs (X:List Pv):List Value:=(X.map (fun p=>(PC p).toList)).flatten
theorem zgD (L:List Pv) (t j:Nat) (p:Pv) (ht:L[t]? = some p) (hj:j < 2):(pcs L)[t * 2+j]? = (PC p).toList[j]?:=by
 induction L generalizing t with
 | nil=>simp at ht
 | cons a L ih =>
  have e:pcs (a :: L)=(PC a).toList++pcs L:=rfl
  cases t with
  | zero=>simp at ht;subst ht;rw [e,List.getElem?_append_left (by simp [PC];omega)];simp
  | succ t =>
   rw [e,List.getElem?_append_right (by simp [PC];omega)];have h:=ih t (by simpa using ht)
   have e4:(t+1) * 2+j - (PC a).toList.length=t * 2+j:=by simp [PC];omega
   rw [e4,h]
theorem zbl (W:World) (g:Nat) (X:List Pv) (C:Array Value) (hC:C=(pcs X).toArray) (T:TypeId) (n:Nat) (hl:X.length=n) (hg:W.heap[g]? = some (.cells C T (0,0))) (hs:∀ p,p∈X -> ak W p):eT W (some ⟨g,0,none⟩) n X:=by
 subst hC
 have cell:∀ t j p,X[t]? = some p -> j < 2 -> W.cell? ⟨g,t * 2+j,none⟩=(PC p).toList[j]?:=by
  intro t j p ht hj;simp only [World.cell?,hg];simp [zgD X t j p ht hj]
 refine ⟨hl,fun h=>(by cases h),fun ad h t p ht=>?_,hs⟩;obtain rfl:=Option.some.inj h;refine ⟨?_,?_⟩
 ·rw [Addr.add_lit,Nat.zero_add];exact cell t 0 p ht (by omega)
 ·rw [Addr.add_lit,Addr.add_lit,Nat.zero_add];exact cell t 1 p ht (by omega)
end
section
open Go.RowKit

structure Si where
 ao:Option Addr
 n:Nat
 cap:Nat
 L:List Int
def siv (s:Si):Value:=.slice s.ao s.n s.cap
def si0:Si:=⟨none,0,0,[]⟩
def JA (F:Nat -> Si):Array Value:=((List.range 16).map fun r=>siv (F r)).toArray
abbrev JAv (F:Nat -> Si):Value:=.agg (JA F)
theorem zg7 (F:Nat -> Si) (t:Nat) (h:t < 16):(JA F)[t]? = some (siv (F t)):=by simp [JA,h]
theorem q8 (F:Nat -> Si):(JAv F).cells=JA F:=by simp [Value.cells]
theorem xv:(#[.slice none 0 0,.slice none 0 0,.slice none 0 0,.slice none 0 0,.slice none 0 0,.slice none 0 0,.slice none 0 0,.slice none 0 0,.slice none 0 0,.slice none 0 0,.slice none 0 0,.slice none 0 0,.slice none 0 0,.slice none 0 0,.slice none 0 0,.slice none 0 0]:Array Value)=JA (fun _=>si0):=rfl
def Nw (F:Nat -> Si) (k:Nat) (s:Si):Nat -> Si:=fun r=>if r=k then s else F r
def pL (w:World) (g:Nat) (T:TypeId) (F:Nat -> Si):Prop:=w.heap[g]? = some (.cells (JA F) T (0,0))
section
variable {w w' : World} {g : Nat} {T : TypeId} {F : Nat -> Si}
theorem pL.cell (h:pL w g T F) (t:Nat) (ht:t < 16):w.cell? ⟨g,t,none⟩=some (.slice (F t).ao (F t).n (F t).cap):=by
 unfold pL at h;simp [World.cell?,h,zg7 F t ht,siv]
end
def Ao (s:Si):Option Nat:=s.ao.map (·.block)
structure oe (B:Nat) (W:World) (F:Nat -> Si):Prop where
 own:∀ r,r < 32 -> W.ownsRow B 3 1 (.slice (F r).ao (F r).n (F r).cap) (F r).n (ics (F r).L)
 apart:∀ r s,r < 32 -> s < 32 -> r≠s -> ∀ k,Ao (F r)=some k -> Ao (F s)≠some k
def Ni (F:Nat -> Si) (q:Nat):Prop:=∀ r,r < 32 -> Ao (F r)≠some q
theorem oe.nil (B:Nat) (W:World):oe B W (fun _=>si0):=⟨fun _ _=>World.ownsRow_nil _ _ _ _,fun _ _ _ _ _ k h=>by cases h⟩
theorem oe.len {B:Nat} {W:World} {F:Nat -> Si} (O:oe B W F) {r:Nat} (hr:r < 32):(F r).L.length=(F r).n:=by
 have:=(O.own r hr).1;rw [kG] at this;omega
end
end Go.Proofs.YtcilfelgpmfehaaGreat
