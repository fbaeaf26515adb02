/- RKit VKa VKb QIn RPu RSl -/
import Derived.Test.YtaphmhbmhcahaabGreatRows
import Derived.WalkKit
import Derived.WalkSpells
import Derived.Deep.QuietTactic
import Derived.BigQuiet
import Derived.Deep.RegionHeld
import Derived.Lib.QuietBelow
import Derived.Laws.Cells
import Derived.Laws.Tables
import Derived.Laws.CopyOwn
import Derived.Lib.OthersKept
import Derived.Deep.RegionWith
import Derived.Laws.MakeOwn
import Derived.Laws.AppendOwnNone
import Derived.Maps.AppendAt
set_option maxHeartbeats 1600000
namespace Go.Proofs.YtaphmhbmhcahaabGreat
open Go.RowKit

theorem hide {p:Prop} (h:p):Hid p:=h
theorem ret_bool {a b:Bool} (h:a=b):Ending.returned (.bool a) = .returned (.bool b):=by rw [h]
theorem ret_int {k:IntKind} {a b:Int} (h:a=b):Ending.returned (.int k a) = .returned (.int k b):=by rw [h]
theorem below_new (w:World) (o:Obj):Below w.heap.size w (w.alloc o):=(Below.refl _ _).alloc (Nat.le_refl _) _
theorem below_drew1 (w:World):Below w.heap.size w w.drew:=⟨rfl,rfl,rfl,Nat.le_refl _,fun _ _=>rfl⟩
theorem add_zero (p:Addr):p.add 0=p:=by unfold Addr.add;split <;> simp_all
theorem block_add (p:Addr) (m:Nat):(p.add m).block=p.block:=by unfold Addr.add;split <;> rfl
theorem add_add (p:Addr) (i j:Nat):(p.add i).add j=p.add (i+j):=by
 unfold Addr.add;split <;> split <;> simp_all [Nat.add_assoc]
structure Rn where
 lo:Int
 hi:Int
instance:DecidableEq Rn:=fun a b=>decidable_of_iff (a.lo=b.lo/\a.hi=b.hi) ⟨fun ⟨h1,h2⟩=>by cases a;cases b;simp_all,fun h=>by subst h;exact ⟨rfl,rfl⟩⟩
def rn0:Rn:=⟨0,0⟩
instance:Inhabited Rn:=⟨rn0⟩
def RC (r:Rn):Array Value:=#[.int .i64 r.lo,.int .i64 r.hi]
abbrev RV (r:Rn):Value:=.agg (RC r)
theorem RC_size (r:Rn):(RC r).size=2:=rfl
theorem RC_one (r:Rn):∀ v∈(RC r).toList,v.oneCell'=true:=by
 intro v hv;simp [RC] at hv;rcases hv with rfl | rfl <;> rfl
theorem cells_RV (r:Rn):(RV r).cells=RC r:=by simp [Value.cells]
theorem zero_RC:(#[.int .i64 0,.int .i64 0]:Array Value)=RC rn0:=rfl
theorem fold_RC (r:Rn):Array.foldl (fun cs x=>cs.setIfInBounds x.snd x.fst) (RC rn0) (RC r).zipIdx 0 2=RC r:=rfl
structure RnAt (w:World) (p:Addr) (r:Rn):Prop where
 c0:w.cell? p=some (.int .i64 r.lo)
 c1:w.cell? (p.add 1)=some (.int .i64 r.hi)
theorem RnAt.on {w w':World} {p:Addr} {r:Rn} (S:RnAt w p r) (hb:Below w.heap.size w w'):RnAt w' p r:=by
 have h0:=World.block_lt_of_cell? _ _ S.c0;exact ⟨by rw [hb.cell h0];exact S.c0,by rw [hb.cell (by rw [block_add];exact h0)];exact S.c1⟩
def Box (w:World) (g:Nat) (T:TypeId) (r:Rn):Prop:=w.heap[g]? = some (.cells (RC r) T (0,0))
theorem Box.lt {w:World} {g:Nat} {T:TypeId} {r:Rn} (h:Box w g T r):g < w.heap.size:=(Array.getElem?_eq_some_iff.1 h).1
theorem Box.at {w:World} {g:Nat} {T:TypeId} {r:Rn} (h:Box w g T r):RnAt w ⟨g,0,none⟩ r:=by
 unfold Box at h;refine ⟨?_,?_⟩ <;> simp [Addr.add,World.cell?,h,RC]
theorem Box.below {w w':World} {g:Nat} {T:TypeId} {r:Rn} (h:Box w g T r) (hb:Below w.heap.size w w'):Box w' g T r:=(hb.block g h.lt).trans h
theorem box_new (w:World) (T:TypeId) (r:Rn):Box (w.alloc (.cells (RC r) T)) w.heap.size T r:=by unfold Box;rw [heap_alloc_new]
def ldR (v:Value):Sem Value:=Instr.loadAt 105 v
theorem ldR_eq (v:Value):Instr.loadAt 105 v=ldR v:=rfl
def stR (p v:Value):Sem Unit:=Instr.storeAt 105 p v
theorem stR_eq (p v:Value):Instr.storeAt 105 p v=stR p v:=rfl
theorem sizeR:(Tryz.prog.info? 105).map (·.size)=some 2:=by kernel_rfl
theorem infoR:(Tryz.prog.info? 105).map (fun i=>(i.zero,i.size,i.bytes))=some (some (.agg #[.int .i64 0,.int .i64 0]),2,16):=by kernel_rfl
theorem run_lvR {w:World} {p:Addr} {r:Rn} (A:RnAt w p r):(loadVar 105 p).run Tryz.prog w = .ok (RV r) w:=by
 have hl:=run_loadCells_list (P:=Tryz.prog) (w:=w) p (RC r).toList (fun j v hv=>by
  match j,hv with
  | 0,hv=>cases hv;rw [add_zero];exact A.c0
  | 1,hv=>cases hv;exact A.c1
  | j+2,hv=>simp [RC] at hv)
 cases hq:Tryz.prog.info? 105 with
 | none=>have:=sizeR;simp [hq] at this
 | some x =>
  have hs:x.size=2:=by have:=sizeR;simpa [hq] using this
  have hagg:(isAgg 105).run Tryz.prog w = .ok true w:=by
   unfold isAgg;rw [Sem.run_bind,run_underlying Tryz.underlying105 w];rfl
  have e2:(RC r).toList.length=2:=rfl;rw [e2] at hl;simp [loadVar,Sem.run_bind,hagg,sizeOf,typeInfo,hq,hs,hl,RV]
theorem run_ldR {w:World} {p:Addr} {r:Rn} (A:RnAt w p r):(ldR (.pointer (some p))).run Tryz.prog w = .ok (RV r) w:=by
 unfold ldR;simp only [Instr.loadAt,Instr.sureAddr,Sem.run_bind,Sem.run_pure,Result.andThen];exact run_lvR A
theorem run_stR {w:World} {g:Nat} {T:TypeId} {r r':Rn} (A:Box w g T r) :
  (stR (.pointer (some ⟨g,0,none⟩)) (RV r')).run Tryz.prog w = .ok () (w.setRow g (RC r')):=by
 unfold stR;have h:=run_storeCells_from (P:=Tryz.prog) g T (RC r').toList 0 (RC r) w A (by simp [RC]) (RC_one r')
 cases hq:Tryz.prog.info? 105 with
 | none=>have:=sizeR;simp [hq] at this
 | some x =>
  have hs:x.size=2:=by have:=sizeR;simpa [hq] using this
  simp only [Instr.storeAt,Instr.sureAddr,Sem.run_bind,Sem.run_pure,Result.andThen,storeVar,sizeOf,typeInfo,cells_RV,RC_size];simp at h;simp [h,hq,hs]
theorem Box.setRow {w:World} {g:Nat} {T:TypeId} {r r':Rn} (A:Box w g T r):Box (w.setRow g (RC r')) g T r':=setRow_heap w g _ _ _ _ A
theorem below_setRow {w w':World} {n g:Nat} {cs:Array Value} (h:Below n w w') (hg:n <= g):Below n w (w'.setRow g cs):=
 h.trans ⟨rfl,rfl,rfl,by simp [World.setRow],fun k hk=>setRow_other _ _ _ _ (by omega)⟩
theorem made (w:World) (r:Rn) (g:Nat) (hg:w.heap.size=g):∃ w':World,(stR (.pointer (some ⟨g,0,none⟩)) (RV r)).run Tryz.prog (w.alloc (.cells (RC rn0) 105)) = .ok () w'/\Box w' g 105 r/\Below w.heap.size w w'/\w'.heap.size=w.heap.size+1:=by
 subst hg;refine ⟨_,run_stR (box_new w 105 rn0),(box_new w 105 rn0).setRow,below_setRow (below_new w _) (Nat.le_refl _),by simp [World.setRow]⟩
structure RSrc (w:World) (ao:Option Addr) (m c:Nat) (L:List Rn):Prop where
 len:L.length=m
 nil:ao=none -> m=0/\c=0
 cell:∀ ad,ao=some ad -> ∀ t,t < m -> RnAt w (ad.add (t * 2)) (L.getD t rn0)
 cap:m <= c
 room:c <= maxLen
 big:m <= 8796093022207
theorem RSrc.below {w w':World} {ao:Option Addr} {m c:Nat} {L:List Rn} (h:RSrc w ao m c L) (hb:Below w.heap.size w w'):RSrc w' ao m c L:=
 ⟨h.len,h.nil,fun ad ha t ht=>(h.cell ad ha t ht).on hb,h.cap,h.room,h.big⟩
theorem RSrc.at {w:World} {ao:Option Addr} {m c:Nat} {L:List Rn} (h:RSrc w ao m c L) (k:Nat) (hk:k < m):∃ ad,ao=some ad/\RnAt w (ad.add (k * 2)) (L.getD k rn0):=by
 cases ao with
 | none=>have:=h.nil rfl;omega
 | some ad=>exact ⟨ad,rfl,h.cell ad rfl k hk⟩
theorem RSrc.empty (w:World):RSrc w none 0 0 []:=⟨rfl,fun _=>⟨rfl,rfl⟩,(fun ad h=>by cases h),Nat.le_refl _,Nat.zero_le _,by omega⟩
theorem RSrc.spot {w:World} {ad:Addr} {m c:Nat} {L:List Rn} (h:RSrc w (some ad) m c L) (hm:0 < m):∃ b o,ad=⟨b,o,none⟩:=by
 have:=World.cell?_spot (h.cell ad rfl 0 hm).c0;obtain ⟨b,o,s⟩:=ad
 have hs:s=none:=by simpa [Addr.add] using this
 exact ⟨b,o,by rw [hs]⟩
theorem RSrc.nums {w:World} {b o m c:Nat} {L:List Rn} (h:RSrc w (some ⟨b,o,none⟩) m c L) (k:Nat) (hk:k < m):w.cell? ⟨b,o+k * 2,none⟩=some (.int .i64 (L.getD k rn0).lo)/\w.cell? ⟨b,o+k * 2+1,none⟩=some (.int .i64 (L.getD k rn0).hi):=by
 have A:=h.cell _ rfl k hk;have h0:=A.c0;have h1:=A.c1;rw [Addr.add_lit] at h0 h1;rw [Addr.add_lit] at h1;exact ⟨h0,h1⟩
theorem RSrc.tail {w:World} {b o m c:Nat} {r:Rn} {L:List Rn} (h:RSrc w (some ⟨b,o,none⟩) m c (r :: L)):RSrc w (some ⟨b,o+2,none⟩) (m - 1) (c - 1) L:=by
 have hl:=h.len;simp at hl;refine ⟨by omega,fun e=>(by cases e),fun ad ha t ht=>?_,by have:=h.cap;omega,by have:=h.room;omega,by have:=h.big;omega⟩;obtain rfl:=Option.some.inj ha;have:=h.cell _ rfl (t+1) (by omega);rw [Addr.add_lit] at this ⊢;rw [show o+2+t * 2=o+(t+1) * 2 by omega];simpa [List.getD] using this
def rcs (L:List Rn):List Value:=(L.map (fun r=>(RC r).toList)).flatten
theorem rcs_append (L R:List Rn):rcs (L++R)=rcs L++rcs R:=by simp [rcs]
theorem rcs_one (r:Rn):rcs [r]=(RC r).toList:=by simp [rcs]
theorem rcs_length (L:List Rn):(rcs L).length=L.length * 2:=by
 induction L with
 | nil=>rfl
 | cons a L ih=>have:rcs (a :: L)=(RC a).toList++rcs L:=rfl;rw [this,List.length_append,ih];simp [RC];omega
theorem rcs_at (L:List Rn) (t j:Nat) (ht:t < L.length) (hj:j < 2):(rcs L)[t * 2+j]? = (RC (L.getD t rn0)).toList[j]?:=by
 induction L generalizing t with
 | nil=>simp at ht
 | cons a L ih =>
  have e:rcs (a :: L)=(RC a).toList++rcs L:=rfl
  cases t with
  | zero=>rw [e,List.getElem?_append_left (by simp [RC];omega)];simp [List.getD]
  | succ t =>
   rw [e,List.getElem?_append_right (by simp [RC];omega)];have h:=ih t (by simpa using ht)
   have e4:(t+1) * 2+j - (RC a).toList.length=t * 2+j:=by simp [RC];omega
   rw [e4,h];simp [List.getD]
theorem rcs_onecell (L:List Rn):∀ u∈rcs L,u.oneCell'=true:=by
 intro u hu;obtain ⟨l,hl,hv⟩:=List.mem_flatten.1 hu;obtain ⟨e,_,rfl⟩:=List.mem_map.1 hl;exact RC_one e u hv
theorem lit_rsrc (w:World) (L:List Rn) (C:Array Value) (hC:C=(rcs L).toArray) (T:TypeId) (n:Nat) (hn:L.length=n) (hm:n <= 8796093022207) :
  RSrc (w.alloc (.cells C T)) (some ⟨w.heap.size,0,none⟩) n n L:=by
 subst hC hn
 have cell:∀ t j,t < L.length -> j < 2 -> (w.alloc (.cells (rcs L).toArray T)).cell? ⟨w.heap.size,t * 2+j,none⟩=(RC (L.getD t rn0)).toList[j]?:=by
  intro t j ht hj;rw [World.cell?_alloc_new,List.getElem?_toArray,rcs_at L t j ht hj]
 refine ⟨rfl,fun h=>(by cases h),fun ad h t ht=>?_,Nat.le_refl _,by unfold maxLen;omega,hm⟩;obtain rfl:=Option.some.inj h;refine ⟨?_,?_⟩
 ·rw [Addr.add_lit,Nat.zero_add];exact cell t 0 ht (by omega)
 ·rw [Addr.add_lit,Addr.add_lit,Nat.zero_add];exact cell t 1 ht (by omega)
structure OwnR (B0 B:Nat) (w w':World) (ao:Option Addr) (cap:Nat) (acc:List Rn):Prop where
 own:w'.ownsRow B 105 2 (.slice ao acc.length cap) acc.length (rcs acc)
 below:Below B0 w w'
 hB:B <= w'.heap.size
 hB0:B0 <= B
theorem OwnR.nil {B0 B:Nat} {w w':World} (hb:Below B0 w w') (hB:B <= w'.heap.size) (h0:B0 <= B):OwnR B0 B w w' none 0 []:=
 ⟨World.ownsRow_nil _ _ _ _,hb,hB,h0⟩
theorem OwnR.append {B0 B:Nat} {w w':World} {ao:Option Addr} {cap:Nat} {acc:List Rn} (O:OwnR B0 B w w' ao cap acc) (e:Rn) (C:Array Value) (hC:C=RC e) (hlen:acc.length < 8796093022207)
  {ops:Array Oper} {rest:List Oper} {o:Oper} {a:Act} {Q:Exit -> Act -> World -> Prop} (hgd:o.guard=none) (s x:Operand) (ho:o.op = .call { callee:=.builtin .append,args:=#[s,x],argTypes:=#[67,67] })
  (n:Nat) (hn:acc.length=n) (hs:a.eval s = .slice ao n cap) (hx:a.eval x = .slice (some ⟨w'.heap.size,0,none⟩) 1 1)
  (hK:∀ (g cap2:Nat) (w2:World),OwnR B0 B w w2 (some ⟨g,0,none⟩) cap2 (acc++[e]) -> wpList Tryz.prog ops Q rest (a.put o.dst (.slice (some ⟨g,0,none⟩) (n+1) cap2)) w2) :
  wpList Tryz.prog ops Q (o :: rest) a (w'.alloc (.cells C 105)):=by
 subst hn hC;obtain ⟨i0,hi,hz0,hz1,hz2⟩:=info_parts infoR;have hB:=O.hB;have hB0:=O.hB0;refine wpList_append_own _ hgd s x 67 ho B 105 i0 (.agg #[.int .i64 0,.int .i64 0]) 2 16 Tryz.underlying67 hi hz0 hz1 hz2 rfl (by decide) _ acc.length (rcs acc) hs (O.own.alloc _) ⟨w'.heap.size,0,none⟩ 1 1 (RC e).toList hx (by simp [RC]) ?_ ?_ (by unfold maxLen;omega) (by omega) (by simp;omega) ?_
 ·intro j u hj;rw [Addr.add_lit,Nat.zero_add,World.cell?_alloc_new];simpa using hj
 ·intro u hu;exact RC_one e u hu
 ·intro v' w2 hown hgrow _;rcases hown.2 with ⟨h0,h00⟩ | ⟨g,cap2,cur,hv,r⟩
  ·omega
  ·subst hv;have hrow:∀ k,(Value.slice ao acc.length cap).ownBlock=some k -> B <= k:=fun k hk=>(O.own.lt k hk).1;have hsz:=hgrow.size;rw [World.size_alloc] at hsz;refine hK g cap2 w2 ⟨?_,(O.below.alloc (by omega) _).grown hgrow (by simp;omega) (fun k hk=>by have:=hrow k hk;omega),by omega,hB0⟩;rw [List.length_append,rcs_append,rcs_one];exact hown
theorem OwnR.later {B0 B:Nat} {w w' w2:World} {ao:Option Addr} {cap:Nat} {acc:List Rn} (O:OwnR B0 B w w' ao cap acc) (hb:Below w'.heap.size w' w2):OwnR B0 B w w2 ao cap acc:=by
 refine ⟨⟨O.own.1,?_⟩,O.below.trans (hb.mono (Nat.le_trans O.hB0 O.hB)),Nat.le_trans O.hB hb.size,O.hB0⟩;rcases O.own.2 with h | ⟨g,cap2,cur,hv,hbg,hgg,r⟩
 ·exact Or.inl h
 ·exact Or.inr ⟨g,cap2,cur,hv,hbg,(hb.block g (Array.getElem?_eq_some_iff.1 hgg).1).trans hgg,r⟩
theorem OwnR.src {B0 B:Nat} {w w':World} {ao:Option Addr} {cap:Nat} {acc:List Rn} (O:OwnR B0 B w w' ao cap acc) (hl:acc.length <= 8796093022207):RSrc w' ao acc.length cap acc/\∀ ad,ao=some ad -> B <= ad.block:=by
 rcases O.own.2 with ⟨h0,h00⟩ | ⟨g,cap2,cur,hv,hbg,hgg,hnc,hcm,hcsz,htake⟩
 ·simp only [Value.slice.injEq] at h0;obtain ⟨rfl,e0,rfl⟩:=h0;exact ⟨⟨rfl,fun _=>⟨h00,rfl⟩,(fun ad h=>by cases h),by omega,Nat.zero_le _,hl⟩,fun ad h=>(by cases h)⟩
 ·simp only [Value.slice.injEq,true_and] at hv;obtain ⟨rfl,rfl⟩:=hv
  have cell:∀ t j,t < acc.length -> j < 2 -> w'.cell? ⟨g,t * 2+j,none⟩=(RC (acc.getD t rn0)).toList[j]?:=fun t j ht hj=>by
   rw [O.own.cellAt (t * 2+j) (by omega),rcs_at _ t j ht hj]
  refine ⟨⟨rfl,fun h=>(by cases h),fun ad h t ht=>?_,hnc,hcm,hl⟩,fun ad h=>by obtain rfl:=Option.some.inj h;exact hbg⟩;obtain rfl:=Option.some.inj h;refine ⟨?_,?_⟩
  ·rw [Addr.add_lit,Nat.zero_add];exact cell t 0 ht (by omega)
  ·rw [Addr.add_lit,Addr.add_lit,Nat.zero_add];exact cell t 1 ht (by omega)
def GivesR (w w':World) (e:Ending) (P:List Rn -> Prop):Prop:=∃ ao n c L,e = .returned (.slice ao n c)/\RSrc w' ao n c L/\Below w.heap.size w w'/\P L
end Go.Proofs.YtaphmhbmhcahaabGreat
namespace Go.Proofs.YtaphmhbmhcahaabGreat.V
section
open Go.RowKit


def Src (w:World) (ao:Option Addr) (m c:Nat) (Z:List Int):Prop:=
 Z.length=m/\(ao=none -> m=0/\c=0)/\∀ ad,ao=some ad -> ∀ t,t < m -> w.cell? (ad.add t)=some (.int .i64 (Z.getD t 0))
theorem Src.below {w w':World} {ao:Option Addr} {m c:Nat} {Z:List Int} (h:Src w ao m c Z) (hb:Below w.heap.size w w'):Src w' ao m c Z:=
 ⟨h.1,h.2.1,fun ad ha t ht=>(hb.cell (World.block_lt_of_cell? w _ (h.2.2 ad ha t ht))).trans (h.2.2 ad ha t ht)⟩

def isR (r:Int):Bool:=decide (0 <= r) && decide (r < 16)
def clamp (z:Int):Int:=if z < 0 then 0 else if 1000000000 < z then 1000000000 else z
def at' (Z:List Int) (r:Nat):Int:=if r < 16 then clamp (Z.getD r 0) else 0
def atI (Z:List Int) (r:Int):Int:=if isR r=true then at' Z r.toNat else 0

theorem isRep_any (r:Int) (w:World):Calls Tryz.prog 95 #[.int .i64 r] w fun e w'=>e = .returned (.bool (isR r))/\w'=w:=by
 go_enter Tryz.func95,Tryz.ntmps95;by_cases h0:0 <= r
 ·have HR:Hid (isR r=decide (r < 16)):=by show _=_;unfold isR;rw [decide_eq_true h0,Bool.true_and]
  go_wp2;go_ret;exact ⟨ret_bool HR.out.symm,rfl⟩
 ·have HR:Hid (isR r=false):=by show _=_;unfold isR;rw [decide_eq_false h0,Bool.false_and]
  go_wp2;go_ret;exact ⟨ret_bool HR.out.symm,rfl⟩

theorem at_any (ao:Option Addr) (n cap:Nat) (Z:List Int) (r:Int) (w:World) (hS:Src w ao n cap Z) :
  Calls Tryz.prog 60 #[.slice ao n cap,.int .i64 r] w fun e w'=>e = .returned (.int .i64 (atI Z r))/\w'=w:=by
 obtain ⟨x,Hx⟩:∃ x,Hid (isR r=x):=⟨_,rfl⟩
 cases x with
 | false =>
  have HA:Hid (atI Z r=0):=by show _=_;unfold atI;rw [Hx.out];rfl
  go_enter Tryz.func60,Tryz.ntmps60;go_wp2_with (go_at_call 95;refine (isRep_any r _).mono ?_;rintro e w' ⟨rfl,rfl⟩;rw [Hx.out]);go_ret;exact ⟨ret_int HA.out.symm,rfl⟩
 | true =>
  have hr:0 <= r/\r < 16:=by have:=Hx.out;unfold isR at this;simpa using this
  have HA:Hid (atI Z r=clamp (Z.getD r.toNat 0)):=by show _=_;unfold atI at';rw [if_pos Hx.out,if_pos (by omega)]
  obtain ⟨k,rfl⟩:∃ k:Nat,r=k:=⟨r.toNat,by omega⟩;rw [Int.toNat_natCast] at HA;by_cases hlt:k < n
  ·cases ao with
   | none=>have:=hS.2.1 rfl;omega
   | some ad =>
    have hcell:=hS.2.2 ad rfl k hlt;obtain ⟨z,hz⟩:∃ z,Z.getD k 0=z:=⟨_,rfl⟩;rw [hz] at hcell HA;clear hz hS;by_cases h1:z < 0
    ·have HC:Hid (atI Z k=0):=by show _=_;rw [HA.out];unfold clamp;rw [if_pos h1]
     go_enter Tryz.func60,Tryz.ntmps60;go_wp2_with (go_at_call 95;refine (isRep_any k _).mono ?_;rintro e w' ⟨rfl,rfl⟩;rw [Hx.out]);go_ret;exact ⟨ret_int HC.out.symm,rfl⟩
    ·by_cases h2:1000000000 < z
     ·have HC:Hid (atI Z k=1000000000):=by show _=_;rw [HA.out];unfold clamp;rw [if_neg h1,if_pos h2]
      go_enter Tryz.func60,Tryz.ntmps60;go_wp2_with (go_at_call 95;refine (isRep_any k _).mono ?_;rintro e w' ⟨rfl,rfl⟩;rw [Hx.out]);go_ret;exact ⟨ret_int HC.out.symm,rfl⟩
     ·have HC:Hid (atI Z k=z):=by show _=_;rw [HA.out];unfold clamp;rw [if_neg h1,if_neg h2]
      go_enter Tryz.func60,Tryz.ntmps60;go_wp2_with (go_at_call 95;refine (isRep_any k _).mono ?_;rintro e w' ⟨rfl,rfl⟩;rw [Hx.out]);go_ret;exact ⟨ret_int HC.out.symm,rfl⟩
  ·have HC:Hid (atI Z k=0):=by
    show _=_;rw [HA.out,List.getD,List.getElem?_eq_none (by have:=hS.1;omega)];rfl
   go_enter Tryz.func60,Tryz.ntmps60;go_wp2_with (go_at_call 95;refine (isRep_any k _).mono ?_;rintro e w' ⟨rfl,rfl⟩;rw [Hx.out]);go_ret;exact ⟨ret_int HC.out.symm,rfl⟩


def VC (f:Nat -> Int):Array Value:=((List.range 16).map fun r=>Value.int .i64 (f r)).toArray
abbrev VA (f:Nat -> Int):Value:=.agg (VC f)
theorem VC_size (f:Nat -> Int):(VC f).size=16:=by simp [VC]
theorem VC_at (f:Nat -> Int) (t:Nat) (h:t < 16):(VC f)[t]? = some (.int .i64 (f t)):=by simp [VC,h]
theorem VC_congr {f g:Nat -> Int} (h:∀ r,r < 16 -> f r=g r):VC f=VC g:=by
 unfold VC;congr 1;apply List.map_congr_left;intro r hr;rw [h r (by simpa using hr)]
theorem VC_one (f:Nat -> Int):∀ v∈(VC f).toList,v.oneCell'=true:=by
 intro v hv;simp only [VC,List.mem_map] at hv;obtain ⟨r,_,rfl⟩:=hv;rfl
theorem cells_VA (f:Nat -> Int):(VA f).cells=VC f:=by
 simp [Value.cells]
def Arr (w:World) (g:Nat) (T:TypeId) (f:Nat -> Int):Prop:=w.heap[g]? = some (.cells (VC f) T (0,0))
def fset (f:Nat -> Int) (k:Nat) (z:Int):Nat -> Int:=fun r=>if r=k then z else f r

section
variable {w w' : World} {g : Nat} {T : TypeId} {f : Nat -> Int}
theorem Arr.lt (h:Arr w g T f):g < w.heap.size:=(Array.getElem?_eq_some_iff.1 h).1
theorem Arr.cell (h:Arr w g T f) (t:Nat) (ht:t < 16):w.cell? ⟨g,t,none⟩=some (.int .i64 (f t)):=by
 unfold Arr at h;simp [World.cell?,h,VC_at f t ht]
theorem Arr.frozen (h:Arr w g T f) (t:Nat):w.frozen? ⟨g,t,none⟩=false:=by unfold Arr at h;simp [World.frozen?,h]
theorem VC_set (f:Nat -> Int) (t:Nat) (z:Int):(VC f).setIfInBounds t (.int .i64 z)=VC (fset f t z):=by
 apply Array.ext
 ·simp [VC]
 ·intro i h1 h2;simp [VC] at h2;by_cases h:t=i
  ·subst h;simp [VC,fset]
  ·have:¬ i=t:=fun e=>h e.symm;simp [VC,fset,h,this]
theorem Arr.set (h:Arr w g T f) (t:Nat) (z:Int):Arr (w.setCell ⟨g,t,none⟩ (.int .i64 z)) g T (fset f t z):=by
 unfold Arr at h ⊢;simp [World.setCell,h,Array.getElem?_modify,<- VC_set]
theorem Arr.congr {f':Nat -> Int} (h:Arr w g T f) (e:∀ r,r < 16 -> f r=f' r):Arr w g T f':=by
 unfold Arr at h ⊢;rw [<- VC_congr e];exact h
theorem Arr.setOther (h:Arr w g T f) (a:Addr) (v:Value) (hne:a.block≠g):Arr (w.setCell a v) g T f:=by
 unfold Arr at h ⊢;simp [World.setCell,h,Array.getElem?_modify,hne]
theorem Arr.below (h:Arr w g T f) (hb:Below w.heap.size w w'):Arr w' g T f:=(hb.block g h.lt).trans h
theorem Arr.alloc (h:Arr w g T f) (o:Obj):Arr (w.alloc o) g T f:=(Below.heap_alloc w o g h.lt).trans h
theorem arr_new (w:World) (T:TypeId) (f:Nat -> Int):Arr (w.alloc (.cells (VC f) T)) w.heap.size T f:=by unfold Arr;rw [heap_alloc_new]
theorem arr_new2 (w:World) (o:Obj) (T:TypeId) (f:Nat -> Int):Arr ((w.alloc o).alloc (.cells (VC f) T)) (w.heap.size+1) T f:=by
 have:=arr_new (w.alloc o) T f;rwa [World.size_alloc] at this
theorem zeros_VC:(#[.int .i64 0,.int .i64 0,.int .i64 0,.int .i64 0,.int .i64 0,.int .i64 0,.int .i64 0,.int .i64 0,.int .i64 0,.int .i64 0,.int .i64 0,.int .i64 0,.int .i64 0,.int .i64 0,.int .i64 0,.int .i64 0]:Array Value)=VC (fun _=>0):=rfl
end

def ld56 (v:Value):Sem Value:=Instr.loadAt 144 v
theorem ld56_eq (v:Value):Instr.loadAt 144 v=ld56 v:=rfl
def st56 (p v:Value):Sem Unit:=Instr.storeAt 144 p v
theorem st56_eq (p v:Value):Instr.storeAt 144 p v=st56 p v:=rfl
theorem size56:(Tryz.prog.info? 144).map (·.size)=some 16:=by kernel_rfl
theorem run_lv56 {w:World} {g:Nat} {T:TypeId} {f:Nat -> Int} (A:Arr w g T f):(loadVar 144 ⟨g,0,none⟩).run Tryz.prog w = .ok (VA f) w:=by
 have hl:=run_loadCells_list (P:=Tryz.prog) (w:=w) ⟨g,0,none⟩ (VC f).toList (fun j v hv=>by
  rw [Addr.add_lit,Nat.zero_add]
  have hj:j < 16:=by have:=(List.getElem?_eq_some_iff.1 hv).1;simpa [VC] using this
  rw [A.cell j hj];have:=VC_at f j hj;simp only [Array.getElem?_toList] at hv
  rw [this] at hv;exact hv)
 cases hq:Tryz.prog.info? 144 with
 | none=>have:=size56;simp [hq] at this
 | some x =>
  have hs:x.size=16:=by have:=size56;simpa [hq] using this
  have hagg:(isAgg 144).run Tryz.prog w = .ok true w:=by
   unfold isAgg;rw [Sem.run_bind,run_underlying Tryz.underlying144 w];rfl
  have e:(VC f).toList.length=16:=by simp [VC]
  rw [e] at hl;simp [loadVar,Sem.run_bind,hagg,sizeOf,typeInfo,hq,hs,hl,VA]
theorem run_ld56 {w:World} {g:Nat} {T:TypeId} {f:Nat -> Int} (A:Arr w g T f):(ld56 (.pointer (some ⟨g,0,none⟩))).run Tryz.prog w = .ok (VA f) w:=by
 unfold ld56;simp only [Instr.loadAt,Instr.sureAddr,Sem.run_bind,Sem.run_pure,Result.andThen];exact run_lv56 A
theorem run_st56 {w:World} {g:Nat} {T:TypeId} {f f':Nat -> Int} (A:Arr w g T f) :
  (st56 (.pointer (some ⟨g,0,none⟩)) (VA f')).run Tryz.prog w = .ok () (w.setRow g (VC f')):=by
 unfold st56;have h:=run_storeCells_from (P:=Tryz.prog) g T (VC f').toList 0 (VC f) w A (by simp [VC]) (VC_one f')
 cases hq:Tryz.prog.info? 144 with
 | none=>have:=size56;simp [hq] at this
 | some x =>
  have hs:x.size=16:=by have:=size56;simpa [hq] using this
  simp only [Instr.storeAt,Instr.sureAddr,Sem.run_bind,Sem.run_pure,Result.andThen,storeVar,sizeOf,typeInfo,cells_VA,VC_size];simp at h;simp [h,hq,hs]
theorem Arr.setRow {w:World} {g:Nat} {T:TypeId} {f f':Nat -> Int} (A:Arr w g T f):Arr (w.setRow g (VC f')) g T f':=setRow_heap w g _ _ _ _ A
theorem below_setRow {w w':World} {n g:Nat} {cs:Array Value} (h:Below n w w') (hg:n <= g):Below n w (w'.setRow g cs):=
 h.trans ⟨rfl,rfl,rfl,by simp [World.setRow],fun k hk=>setRow_other _ _ _ _ (by omega)⟩
theorem below_setCell {w w':World} {n:Nat} {a:Addr} {v:Value} (h:Below n w w') (hg:n <= a.block):Below n w (w'.setCell a v):=
 h.trans ⟨rfl,rfl,rfl,by simp [World.setCell],fun k hk=>by simp [World.setCell,Array.getElem?_modify,show ¬ a.block=k by omega]⟩
theorem res56 {fn:Func} {p:Tmp} {w:World} {g:Nat} {T:TypeId} {f:Nat -> Int} (h:fn.results=#[.cell p 144]) {tmps:Array Value} (hp:tmps.getD p undef = .pointer (some ⟨g,0,none⟩)) (A:Arr w g T f) :
  (results fn tmps).run Tryz.prog w = .ok (VA f) w:=by
 have hl:=run_lv56 A;simp only [results,h];rw [Array.getD_eq_getD_getElem?] at hp;simp [hp,asAddr,hl]
attribute [local go_sem ↓] ld56_eq st56_eq
theorem meant_any (ao:Option Addr) (n cap:Nat) (Z:List Int) (w:World) (hS:Src w ao n cap Z) :
  Calls Tryz.prog 104 #[.slice ao n cap] w fun e w'=>e = .returned (VA (at' Z))/\Below w.heap.size w w':=by
 have HS:=hide hS;clear hS;go_enter Tryz.func104,Tryz.ntmps104;go_wp2;go_loopw [5] (fun i wr=>∃ k:Nat,k <= 16/\i = .int .i64 k/\Hid (Arr wr w.heap.size 144 fun _=>0)/\Hid (Arr wr (w.heap.size+1) 144 fun r=>if r < k then at' Z r else 0)/\Hid (Below w.heap.size w wr)) (fun i _=>16 - (intOf i).toNat)
 case atStart =>
  rw [zeros_VC];exact ⟨0,Nat.zero_le _,rfl,(arr_new w 144 _).alloc _,(arr_new2 w _ 144 _).congr (fun r _=>by simp),((Below.refl _ _).alloc (Nat.le_refl _) _).alloc (by simp) _⟩
 case round =>
  obtain ⟨k,hk,rfl,A0,A1,HB⟩:=hrel;by_cases hlt:k < 16
  ·have HC:=hide (at_any ao n cap Z k wr (HS.out.below HB.out))
   have HI:Hid (atI Z k=at' Z k):=by show _=_;unfold atI;rw [if_pos (by simp [isR];omega),Int.toNat_natCast]
   have c1:=A1.out.cell k hlt;have z1:=A1.out.frozen k;go_wp2_with (go_at_call 60;refine HC.out.mono ?_;rintro e w' ⟨rfl,rfl⟩);go_roundw
   case rel =>
    refine ⟨k+1,by omega,by go_num,A0.out.setOther _ _ (by simp),(A1.out.set k _).congr (fun r _=>?_),below_setCell HB.out (by simp)⟩;rw [HI.out];unfold fset;by_cases e:r=k
    ·subst e;simp
    ·by_cases h:r < k
     ·simp [e,h];omega
     ·simp [e,h];omega
   case measure=>simp [intOf];omega
  ·obtain rfl:k=16:=by omega
   have A1':=A1.out.congr (f':=at' Z) (fun r hr=>by simp [hr]);have l1:=run_ld56 A1';have s1:=run_st56 (f':=at' Z) A0.out;go_wp2;refine bodyPost_ret (v:=VA (at' Z)) ?_ rfl ⟨rfl,below_setRow HB.out (Nat.le_refl _)⟩;exact res56 Tryz.results104 rfl (A0.out.setRow)
end
section
open Go.RowKit
attribute [local go_sem] zeros_VC
def hasD (Z:List Int) (r m:Int):Bool:=decide (1 <= m) && decide (m <= atI Z r)
theorem clamp_bd (z:Int):0 <= clamp z/\clamp z <= 1000000000:=by unfold clamp;split;omega;split <;> omega
theorem at'_bd (Z:List Int) (r:Nat):0 <= at' Z r/\at' Z r <= 1000000000:=by
 unfold at';split
 ·exact clamp_bd _
 ·omega
theorem atI_bd (Z:List Int) (r:Int):0 <= atI Z r/\atI Z r <= 1000000000:=by
 unfold atI;split
 ·exact at'_bd _ _
 ·omega

theorem at_below (ao:Option Addr) (n cap:Nat) (Z:List Int) (r:Int) (w:World) (hS:Src w ao n cap Z) :
  Calls Tryz.prog 60 #[.slice ao n cap,.int .i64 r] w fun e w'=>e = .returned (.int .i64 (atI Z r))/\Below w.heap.size w w':=by
 refine (at_any ao n cap Z r w hS).mono ?_;rintro e w' ⟨rfl,rfl⟩;exact ⟨rfl,Below.refl _ _⟩

theorem has_any (ao:Option Addr) (n cap:Nat) (Z:List Int) (r m:Int) (w:World) (hS:Src w ao n cap Z) :
  Calls Tryz.prog 54 #[.slice ao n cap,.agg #[.int .i64 r,.int .i64 m]] w fun e w'=>e = .returned (.bool (hasD Z r m))/\Below w.heap.size w w':=by
 have HB:Hid (Below w.heap.size w (w.alloc (.cells #[.int .i64 r,.int .i64 m] 37))):=(Below.refl _ _).alloc (Nat.le_refl _) _;have HS:=hide (hS.below HB.out);clear hS;obtain ⟨w0,Hw0⟩:∃ w0,Hid (w.alloc (.cells #[.int .i64 r,.int .i64 m] 37)=w0):=⟨_,rfl⟩;have k0:=cell_regrown (show w0.cell? ⟨w.heap.size,0,none⟩=some (.int .i64 r) by rw [<- Hw0.out];simp);have k1:=cell_regrown (show w0.cell? ⟨w.heap.size,1,none⟩=some (.int .i64 m) by rw [<- Hw0.out];simp);rw [Hw0.out] at HB HS;obtain ⟨a,HA⟩:∃ a,Hid (atI Z r=a):=⟨_,rfl⟩
 have cA:∀ d os,Calls Tryz.prog 60 #[.slice ao n cap,.int .i64 r] (Sort.grow (redrawn w0 d) os) fun e w''=>e = .returned (.int .i64 a)/\∃ p:Regrown,w''=Sort.grow (redrawn w0 p.d) p.os:=fun d os=>by
  have:=at_below ao n cap Z r (Sort.grow (redrawn w0 d) os) (HS.out.below (below_regrown w0 d os));rw [HA.out] at this;exact Calls.regrown_of this
 by_cases h1:1 <= m
 ·have HR:Hid (hasD Z r m=decide (m <= a)):=by show _=_;unfold hasD;rw [decide_eq_true h1,Bool.true_and,HA.out]
  go_enter Tryz.func54,Tryz.ntmps54;go_wp2_with fail;rw [Hw0.out];refine wp_region_quiet_below (by kernel_rfl) (by kernel_rfl) ?_
  repeat (quiet_step ((go_at_call 60;exact cA _ _)))
  refine wpQuiet_nil ?_;intro _ hw';obtain ⟨⟨dq,osq⟩,hw''⟩:=hw';subst hw'';have HBE:Hid (Below w.heap.size w (Sort.grow (redrawn w0 dq) osq)):=HB.out.trans ((below_regrown w0 dq osq).mono HB.out.size);go_wp2;go_ret;exact ⟨ret_bool HR.out.symm,HBE.out⟩
 ·have HR:Hid (hasD Z r m=false):=by show _=_;unfold hasD;rw [decide_eq_false h1,Bool.false_and]
  have h1':=decide_eq_false h1;go_enter Tryz.func54,Tryz.ntmps54;go_wp2_with fail;rw [Hw0.out];refine wp_region_quiet_below (by kernel_rfl) (by kernel_rfl) ?_
  repeat (quiet_step (fail))
  refine wpQuiet_nil ?_;intro _ hw';obtain ⟨⟨dq,osq⟩,hw''⟩:=hw';subst hw'';have HBE:Hid (Below w.heap.size w (Sort.grow (redrawn w0 dq) osq)):=HB.out.trans ((below_regrown w0 dq osq).mono HB.out.size);go_wp2;go_ret;exact ⟨ret_bool HR.out.symm,HBE.out⟩

attribute [local go_sem ↓] ld56_eq st56_eq
attribute [local go_sem] zeros_VC cells_VA
def topN (f:Nat -> Int):Nat -> Nat
 | 0=>0
 | k+1=>if f k=0 then topN f k else k+1
def top (f:Nat -> Int):Nat:=topN f 16
def short (f:Nat -> Int):List Int:=(List.range (top f)).map f
theorem topN_le (f:Nat -> Int) (k:Nat):topN f k <= k:=by
 induction k with
 | zero=>simp [topN]
 | succ k ih=>unfold topN;split <;> omega
theorem top_le (f:Nat -> Int):top f <= 16:=topN_le f 16
theorem short_length (f:Nat -> Int):(short f).length=top f:=by simp [short]
def Gives (w w':World) (e:Ending) (Z:List Int):Prop:=∃ ao n c,e = .returned (.slice ao n c)/\Src w' ao n c Z/\Below w.heap.size w w'

def GivesN (w w':World) (e:Ending) (Z:List Int):Prop:=∃ ao n c,e = .returned (.slice ao n c)/\Src w' ao n c Z/\Below w.heap.size w w'/\∀ ad,ao=some ad -> w.heap.size <= ad.block
theorem info3:(Tryz.prog.info? 3).map (fun i=>(i.zero,i.size,i.bytes))=some (some (.int .i64 0),1,8):=by kernel_rfl
theorem madeZeros (n:Nat):madeCells #[Value.int .i64 0] n=((List.replicate n (0:Int)).map (Value.int .i64)).toArray:=by
 apply Array.ext
 ·simp [madeCells]
 ·intro i h1 h2;simp [madeCells,Nat.mod_one]
theorem run_mk (w:World) (n:Nat) (hn:n <= 16):(Instr.makeSlice 23 (.int .i64 (n:Int)) (.int .i64 (n:Int))).run Tryz.prog w = .ok (.slice (some ⟨w.heap.size,0,none⟩) n n) (w.alloc (.cells ((List.replicate n (0:Int)).map (Value.int .i64)).toArray 3)):=by
 obtain ⟨i0,hi,hz0,hz1,hz2⟩:=info_parts info3;have h:=run_make (P:=Tryz.prog) w 23 3 i0 (.int .i64 0) Tryz.underlying23 hi hz0 .i64 .i64 (n:Int) (n:Int) (by omega) (by omega) (by rw [hz2];omega) (by omega);rw [hz1,Int.toNat_natCast,Nat.mul_one] at h;have hcl:(Value.int .i64 0).cells=#[Value.int .i64 0]:=rfl;rw [hcl,madeZeros] at h;exact h

def mk22 (a b:Value):Sem Value:=Instr.makeSlice 23 a b
theorem mk22_eq (a b:Value):Instr.makeSlice 23 a b=mk22 a b:=rfl
def cp22 (a b:Value):Sem Value:=Builtin.copy_ #[23,23] 3 #[a,b]
theorem cp22_eq (a b:Value):Builtin.copy_ #[23,23] 3 #[a,b]=cp22 a b:=rfl
attribute [local go_sem ↓] mk22_eq cp22_eq
theorem size3:(Tryz.prog.info? 3).map (·.size)=some 1:=by kernel_rfl
theorem made_copied (f:Nat -> Int) (w wr:World) (k:Nat) (K:Int) (hK:K=(k:Int)) (hk:k <= 16) (hT:k=top f) (A:Arr wr w.heap.size 144 f) (hz:wr.heap.size=w.heap.size+1) (hb:Below w.heap.size w wr) :
  ∃ w1 w2:World,(mk22 (.int .i64 K) (.int .i64 K)).run Tryz.prog wr = .ok (.slice (some ⟨w.heap.size+1,0,none⟩) k k) w1 /\
   (cp22 (.slice (some ⟨w.heap.size+1,0,none⟩) k k) (.slice (some ⟨w.heap.size,0,none⟩) k 16)).run Tryz.prog w1 = .ok (goInt K) w2 /\
   Src w2 (some ⟨w.heap.size+1,0,none⟩) k k (short f)/\Below w.heap.size w w2:=by
 subst hK;have h1:=run_mk wr k hk;rw [hz] at h1;have A1:=A.alloc (.cells ((List.replicate k (0:Int)).map (Value.int .i64)).toArray 3)
 have hg:(wr.alloc (.cells ((List.replicate k (0:Int)).map (Value.int .i64)).toArray 3)).heap[w.heap.size+1]? = some (.cells ((List.replicate k (0:Int)).map (Value.int .i64)).toArray 3 (0,0)):=by
  rw [<- hz];exact heap_alloc_new wr _
 have hl:((short f).map (Value.int .i64)).length=k:=by rw [List.length_map,short_length,hT]
 have h2:=run_copy_row (P:=Tryz.prog) (wr.alloc (.cells ((List.replicate k (0:Int)).map (Value.int .i64)).toArray 3)) 23 23 3 3 (w.heap.size+1) 0 k k ⟨w.heap.size,0,none⟩ k 16 _ 3 ((short f).map (Value.int .i64)) Tryz.underlying23 size3 hg
  (by rw [hl];simp) (fun j v hv=>by
   rw [Addr.add_lit,Nat.zero_add];simp only [List.getElem?_map,Option.map_eq_some_iff] at hv;obtain ⟨z,hz1,rfl⟩:=hv
   have hj:j < top f:=by rw [<- short_length];exact (List.getElem?_eq_some_iff.1 hz1).1
   have h16:=top_le f;rw [A1.cell j (by omega)];simp [short,hj] at hz1
   rw [hz1]) (by rw [hl];simp) (fun v hv=>by simp only [List.mem_map] at hv;obtain ⟨z,_,rfl⟩:=hv;rfl)
 rw [hl] at h2;refine ⟨_,_,h1,h2,?_,?_⟩
 ·refine ⟨by rw [short_length,hT],fun h=>(by cases h),fun ad h t ht=>?_⟩;obtain rfl:=Option.some.inj h;simp only [Addr.add_lit,Nat.zero_add];rw [cell_setRow_same _ _ t _ _ _ _ hg]
  have hl2:(short f).length=k:=by rw [short_length,hT]
  have ht':t < (short f).length:=by omega
  simp [List.getD];rw [List.getElem?_eq_getElem ht'];rfl
 ·exact below_setRow (hb.alloc (by omega) _) (by omega)

theorem list_new (f:Nat -> Int) (w:World):Calls Tryz.prog 105 #[VA f] w fun e w'=>GivesN w w' e (short f):=by
 go_enter Tryz.func105,Tryz.ntmps105;go_wp2;go_loopw [3] (fun i wr=>∃ k:Nat,k <= 16/\i = .int .i64 k/\Hid (topN f k=top f)/\Hid (Arr wr w.heap.size 144 f)/\Hid (wr.heap.size=w.heap.size+1)/\Hid (Below w.heap.size w wr)) (fun i _=>(intOf i).toNat)
 case atStart=>exact ⟨16,Nat.le_refl _,rfl,rfl,arr_new w 144 f,by show _=_;simp,(Below.refl _ _).alloc (Nat.le_refl _) _⟩
 case round =>
  obtain ⟨k,hk,rfl,HT,A,HZ,HB⟩:=hrel
  cases k with
  | zero =>
   have ht:0=top f:=by rw [<- HT.out];rfl
   obtain ⟨w1,w2,m1,m2,S,b2⟩:=made_copied f w wr 0 0 rfl hk ht A.out HZ.out HB.out;have S':=hide S;have b2':=hide b2;clear S b2 ht;go_wp2;go_ret;exact ⟨_,_,_,rfl,S'.out,b2'.out,fun ad h=>by obtain rfl:=Option.some.inj h;simp⟩
  | succ k =>
   have c1:=A.out.cell k (by omega);obtain ⟨z,Hz⟩:∃ z,Hid (f k=z):=⟨_,rfl⟩;rw [Hz.out] at c1;by_cases h0:z=0
   ·subst h0
    have HN:Hid (topN f k=top f):=by show _=_;rw [<- HT.out];conv=>rhs;unfold topN;rw [if_pos Hz.out]
    go_wp2;go_roundw
    case rel=>exact ⟨k,by omega,by go_num,HN,A,HZ,HB⟩
    case measure=>simp [intOf]
   ·have ht:k+1=top f:=by rw [<- HT.out];unfold topN;rw [Hz.out,if_neg h0]
    have h0':(z == 0)=false:=by simpa using h0
    obtain ⟨w1,w2,m1,m2,S,b2⟩:=made_copied f w wr (k+1) ((k:Int)+1) (by omega) hk ht A.out HZ.out HB.out;have S':=hide S;have b2':=hide b2;clear S b2 ht h0
    have q1:(k:Int)+1 <= 16:=by omega
    have q0:0 <= (k:Int)+1:=by omega
    go_wp2;go_ret;exact ⟨_,_,_,rfl,S'.out,b2'.out,fun ad h=>by obtain rfl:=Option.some.inj h;simp⟩
theorem Gives.on {w w1 w':World} {e:Ending} {Z:List Int} (h:Gives w1 w' e Z) (hb:Below w.heap.size w w1):Gives w w' e Z:=by
 obtain ⟨ao,n,c,he,S,b⟩:=h;exact ⟨ao,n,c,he,S,hb.trans (b.mono hb.size)⟩
theorem below_on2 {a b c:World} (h1:Below a.heap.size a b) (h2:Below b.heap.size b c):Below a.heap.size a c:=h1.trans (h2.mono h1.size)

theorem norm_new (ao:Option Addr) (n cap:Nat) (Z:List Int) (w:World) (hS:Src w ao n cap Z) :
  Calls Tryz.prog 68 #[.slice ao n cap] w fun e w'=>GivesN w w' e (short (at' Z)):=by
 have HS:=hide hS;clear hS;go_enter Tryz.func68,Tryz.ntmps68;go_wp2_with fail;refine (meant_any ao n cap Z _ HS.out).mono ?_;rintro e w1 ⟨rfl,b1⟩;go_wp2_with fail;refine (list_new (at' Z) _).mono ?_;rintro e w2 ⟨ao2,n2,c2,rfl,S2,b2,f2⟩;have B:=hide (below_on2 b1 b2);have S:=hide S2;have F:=hide (fun ad h=>Nat.le_trans b1.size (f2 ad h));clear b1 b2 S2 f2;go_wp2_with fail;go_ret;exact ⟨_,_,_,rfl,S.out,B.out,F.out⟩
theorem Src.off {w w':World} {ao:Option Addr} {n c:Nat} {Z:List Int} (h:Src w ao n c Z) (hk:∀ ad,ao=some ad -> w'.heap[ad.block]? = w.heap[ad.block]?):Src w' ao n c Z:=
 ⟨h.1,h.2.1,fun ad ha t ht=>by rw [<- h.2.2 ad ha t ht];unfold World.cell?;rw [block_add,hk ad ha]⟩
end
end Go.Proofs.YtaphmhbmhcahaabGreat.V
namespace Go.Proofs.YtaphmhbmhcahaabGreat
section
open Go.RowKit

theorem isrc_at {w:World} {ao:Option Addr} {n c:Nat} {Z:List Int} (S:V.Src w ao n c Z) (k:Nat) (h:k < n):∃ ad,ao=some ad/\w.cell? (ad.add k)=some (.int .i64 (Z.getD k 0)):=by
 cases ao with
 | none=>have:=S.2.1 rfl;omega
 | some ad=>exact ⟨ad,rfl,S.2.2 ad rfl k h⟩
def ics (L:List Int):List Value:=L.map (Value.int .i64)
theorem ics_append (L M:List Int):ics (L++M)=ics L++ics M:=by simp [ics]
theorem ics_length (L:List Int):(ics L).length=L.length:=by simp [ics]
theorem ics_one (L:List Int):∀ u∈ics L,u.oneCell'=true:=by
 intro u hu;obtain ⟨z,_,rfl⟩:=List.mem_map.1 hu;rfl
theorem ics_at (L:List Int) (t:Nat) (ht:t < L.length):(ics L)[t]? = some (.int .i64 (L.getD t 0)):=by
 simp [ics,ht,List.getD]
structure OwnI (B0 B:Nat) (w w':World) (ao:Option Addr) (cap:Nat) (acc:List Int):Prop where
 own:w'.ownsRow B 3 1 (.slice ao acc.length cap) acc.length (ics acc)
 below:Below B0 w w'
 hB:B <= w'.heap.size
 hB0:B0 <= B
theorem OwnI.nil {B0 B:Nat} {w w':World} (hb:Below B0 w w') (hB:B <= w'.heap.size) (h0:B0 <= B):OwnI B0 B w w' none 0 []:=
 ⟨World.ownsRow_nil _ _ _ _,hb,hB,h0⟩
theorem OwnI.later {B0 B:Nat} {w w' w2:World} {ao:Option Addr} {cap:Nat} {acc:List Int} (O:OwnI B0 B w w' ao cap acc) (hb:Below w'.heap.size w' w2):OwnI B0 B w w2 ao cap acc:=by
 refine ⟨⟨O.own.1,?_⟩,O.below.trans (hb.mono (Nat.le_trans O.hB0 O.hB)),Nat.le_trans O.hB hb.size,O.hB0⟩;rcases O.own.2 with h | ⟨g,cap2,cur,hv,hbg,hgg,r⟩
 ·exact Or.inl h
 ·exact Or.inr ⟨g,cap2,cur,hv,hbg,(hb.block g (Array.getElem?_eq_some_iff.1 hgg).1).trans hgg,r⟩
theorem infoI:(Tryz.prog.info? 3).map (fun i=>(i.zero,i.size,i.bytes))=some (some (.int .i64 0),1,8):=by kernel_rfl
theorem OwnI.append {B0 B:Nat} {w w':World} {ao:Option Addr} {cap:Nat} {acc:List Int} (O:OwnI B0 B w w' ao cap acc) (E:List Int) (ad:Addr) (m c:Nat) (S:V.Src w' (some ad) m c E) (hlen:acc.length+m <= 17592186044415)
  {ops:Array Oper} {rest:List Oper} {o:Oper} {a:Act} {Q:Exit -> Act -> World -> Prop} (hgd:o.guard=none) (s x:Operand) (ho:o.op = .call { callee:=.builtin .append,args:=#[s,x],argTypes:=#[23,23] })
  (n:Nat) (hn:acc.length=n) (hs:a.eval s = .slice ao n cap) (hx:a.eval x = .slice (some ad) m c)
  (hK:∀ (ao2:Option Addr) (cap2:Nat) (w2:World),OwnI B0 B w w2 ao2 cap2 (acc++E) -> (∀ k,k < w'.heap.size -> (Value.slice ao acc.length cap).ownBlock≠some k -> w2.heap[k]? = w'.heap[k]? /\ ∀ ad2,ao2=some ad2 -> ad2.block≠k) -> w'.heap.size <= w2.heap.size -> wpList Tryz.prog ops Q rest (a.put o.dst (.slice ao2 (n+m) cap2)) w2) :
  wpList Tryz.prog ops Q (o :: rest) a w':=by
 subst hn;obtain rfl:E.length=m:=S.1;obtain ⟨i0,hi,hz0,hz1,hz2⟩:=info_parts infoI;have hB:=O.hB;have hB0:=O.hB0;refine wpList_append_own_at _ hgd s x 23 ho B 3 i0 (.int .i64 0) 1 8 Tryz.underlying23 hi hz0 hz1 hz2 rfl (by decide) _ acc.length (ics acc) hs O.own ad E.length c (ics E) hx (by rw [ics_length,Nat.mul_one]) (fun j u hj=>?_) (ics_one E) (by unfold maxLen;omega) (by omega) hB ?_
 ·have hl:j < E.length:=by rw [<- ics_length];exact (List.getElem?_eq_some_iff.1 hj).1
  rw [ics_at E j hl] at hj;rw [S.2.2 ad rfl j hl];exact hj
 intro v' w2 hown hgrow _ hat
 have hrow:∀ k,(Value.slice ao acc.length cap).ownBlock=some k -> B <= k:=fun k hk=>(O.own.lt k hk).1;have hsz:=hgrow.size;have hb2:Below B0 w w2:=O.below.grown hgrow (by omega) (fun k hk=>by have:=hrow k hk;omega);rw [<- ics_append] at hown;rcases hown.2 with ⟨h0,h00⟩ | ⟨g,cap2,cur,hv,r⟩
 ·subst h0;have e1:acc=[]:=List.eq_nil_of_length_eq_zero (by omega);have e2:E=[]:=List.eq_nil_of_length_eq_zero (by omega);subst e1 e2;exact hK none 0 w2 ⟨hown,hb2,by omega,hB0⟩ (fun k hk hne=>⟨hgrow.block k hk (fun e=>hne e.symm),fun ad2 h=>by cases h⟩) hsz
 ·subst hv;refine hK (some ⟨g,0,none⟩) cap2 w2 ⟨by rw [List.length_append];exact hown,hb2,by omega,hB0⟩ (fun k hk hne=>⟨hgrow.block k hk (fun e=>hne e.symm),fun ad2 h e=>?_⟩) hsz;obtain rfl:=Option.some.inj h;have e':g=k:=e;rcases hat with h | h
  ·exact hne (by rw [<- h,<- e'];rfl)
  ·simp [Value.ownBlock] at h;omega
theorem OwnI.appendS {B0 B:Nat} {w w':World} {ao:Option Addr} {cap:Nat} {acc:List Int} (O:OwnI B0 B w w' ao cap acc) (E:List Int) (xo:Option Addr) (m c:Nat) (S:V.Src w' xo m c E) (hlen:acc.length+m <= 17592186044415)
  {ops:Array Oper} {rest:List Oper} {o:Oper} {a:Act} {Q:Exit -> Act -> World -> Prop} (hgd:o.guard=none) (s x:Operand) (ho:o.op = .call { callee:=.builtin .append,args:=#[s,x],argTypes:=#[23,23] })
  (n:Nat) (hn:acc.length=n) (hs:a.eval s = .slice ao n cap) (hx:a.eval x = .slice xo m c)
  (hK:∀ (ao2:Option Addr) (cap2:Nat) (w2:World),OwnI B0 B w w2 ao2 cap2 (acc++E) -> wpList Tryz.prog ops Q rest (a.put o.dst (.slice ao2 (n+m) cap2)) w2) :
  wpList Tryz.prog ops Q (o :: rest) a w':=by
 cases xo with
 | some ad=>exact O.append E ad m c S hlen hgd s x ho n hn hs hx (fun ao2 cap2 w2 h _ _=>hK ao2 cap2 w2 h)
 | none =>
  obtain ⟨rfl,rfl⟩:=S.2.1 rfl;have e:=List.eq_nil_of_length_eq_zero S.1;subst e;subst hn;obtain ⟨i0,hi,hz0,hz1,hz2⟩:=info_parts infoI;refine wpList_append_own_none hgd s x 23 ho B 3 i0 1 Tryz.underlying23 hi _ acc.length (ics acc) hs O.own hx ?_;have:=hK ao cap w';rw [List.append_nil,Nat.add_zero] at this;exact this O
theorem OwnI.src {B0 B:Nat} {w w':World} {ao:Option Addr} {cap:Nat} {acc:List Int} (O:OwnI B0 B w w' ao cap acc):V.Src w' ao acc.length cap acc/\(∀ ad,ao=some ad -> B <= ad.block)/\acc.length <= cap/\cap <= maxLen:=by
 rcases O.own.2 with ⟨h0,h00⟩ | ⟨g,cap2,cur,hv,hbg,hgg,hnc,hcm,hcsz,htake⟩
 ·simp only [Value.slice.injEq] at h0;obtain ⟨rfl,e0,rfl⟩:=h0;exact ⟨⟨rfl,fun _=>⟨h00,rfl⟩,fun ad h=>(by cases h)⟩,fun ad h=>(by cases h),by omega,by unfold maxLen;omega⟩
 ·simp only [Value.slice.injEq,true_and] at hv;obtain ⟨rfl,rfl⟩:=hv;refine ⟨⟨rfl,fun h=>(by cases h),fun ad h t ht=>?_⟩,fun ad h=>by obtain rfl:=Option.some.inj h;exact hbg,hnc,hcm⟩;obtain rfl:=Option.some.inj h;rw [Addr.add_lit,Nat.zero_add,O.own.cellAt t (by omega),ics_at acc t ht]
theorem src_off {w w':World} {ao:Option Addr} {n c:Nat} {Z:List Int} (h:V.Src w ao n c Z) (hk:∀ ad,ao=some ad -> w'.heap[ad.block]? = w.heap[ad.block]?):V.Src w' ao n c Z:=h.off hk
theorem OwnI.made (w:World) (C:Array Value) (cap:Nat) (hc:C.size=cap * 1) (hm:cap <= maxLen):OwnI w.heap.size w.heap.size w (w.alloc (.cells C 3)) (some ⟨w.heap.size,0,none⟩) cap []:=
 ⟨World.ownsRow_made w C cap (Nat.le_refl _) hm hc,below_new w _,by simp,Nat.le_refl _⟩
theorem OwnI.lt {B0 B:Nat} {w w':World} {ao:Option Addr} {cap:Nat} {acc:List Int} (O:OwnI B0 B w w' ao cap acc) {k:Nat} (h:(Value.slice ao acc.length cap).ownBlock=some k):B <= k/\k < w'.heap.size:=O.own.lt k h
theorem ilit1 (w:World) (x:Int) (C:Array Value) (hC:C=#[.int .i64 x]) (T:TypeId):V.Src (w.alloc (.cells C T)) (some ⟨w.heap.size,0,none⟩) 1 1 [x]:=by
 subst hC;refine ⟨rfl,fun h=>(by cases h),fun ad h t ht=>?_⟩;obtain rfl:=Option.some.inj h;rw [Addr.add_lit,Nat.zero_add,World.cell?_alloc_new]
 obtain rfl:t=0:=by omega
 rfl
theorem src_take {w:World} {ad:Addr} {n c:Nat} {Z:List Int} (h:V.Src w (some ad) n c Z) (k:Nat) (hk:k <= n):V.Src w (some ad) k c (Z.take k):=by
 refine ⟨by rw [List.length_take,h.1];omega,fun e=>(by cases e),fun a e t ht=>?_⟩;rw [h.2.2 a e t (by omega)];simp [List.getD,ht]
theorem src_drop {w:World} {ad:Addr} {n c:Nat} {Z:List Int} (h:V.Src w (some ad) n c Z) (k:Nat) (hk:k <= n) (c':Nat):V.Src w (some (ad.add k)) (n - k) c' (Z.drop k):=by
 refine ⟨by rw [List.length_drop,h.1],fun e=>(by cases e),fun a e t ht=>?_⟩;obtain rfl:=Option.some.inj e;rw [add_add,h.2.2 ad rfl (k+t) (by omega)];simp [List.getD,List.getElem?_drop]
end
section

def mem (a:List Rn) (n:Int):Prop:=1 <= n/\n <= 1000000000/\∃ r,r∈a/\r.lo <= n/\n <= r.hi
def form:Int -> List Rn -> Prop
 | _,[]=>True
 | l,r :: a=>l <= r.lo/\r.lo <= r.hi/\r.hi <= 1000000000/\form (r.hi+2) a
theorem mem_nil (n:Int):¬ mem [] n:=fun ⟨_,_,r,h,_⟩=>by cases h
theorem mem_cons (r:Rn) (a:List Rn) (n:Int):mem (r :: a) n↔(1 <= n/\n <= 1000000000/\r.lo <= n/\n <= r.hi)∨mem a n:=by
 constructor
 ·rintro ⟨h1,h2,x,hx,h3⟩;rcases List.mem_cons.1 hx with e | e
  ·subst e;exact Or.inl ⟨h1,h2,h3⟩
  ·exact Or.inr ⟨h1,h2,x,e,h3⟩
 ·rintro (⟨h1,h2,h3⟩ | ⟨h1,h2,x,hx,h3⟩)
  ·exact ⟨h1,h2,r,List.mem_cons_self ..,h3⟩
  ·exact ⟨h1,h2,x,List.mem_cons_of_mem _ hx,h3⟩
theorem mem_append (a b:List Rn) (n:Int):mem (a++b) n↔mem a n∨mem b n:=by
 constructor
 ·rintro ⟨h1,h2,x,hx,h3⟩;rcases List.mem_append.1 hx with e | e
  ·exact Or.inl ⟨h1,h2,x,e,h3⟩
  ·exact Or.inr ⟨h1,h2,x,e,h3⟩
 ·rintro (⟨h1,h2,x,hx,h3⟩ | ⟨h1,h2,x,hx,h3⟩)
  ·exact ⟨h1,h2,x,List.mem_append_left _ hx,h3⟩
  ·exact ⟨h1,h2,x,List.mem_append_right _ hx,h3⟩
theorem mem_one (r:Rn) (n:Int):mem [r] n↔1 <= n/\n <= 1000000000/\r.lo <= n/\n <= r.hi:=by
 rw [mem_cons];exact ⟨fun h=>h.elim id (fun h=>absurd h (mem_nil n)),Or.inl⟩
theorem mem_congr {a b:List Rn} (h:∀ r,r∈a↔r∈b) (n:Int):mem a n↔mem b n:=
 ⟨fun ⟨h1,h2,x,hx,h3⟩=>⟨h1,h2,x,(h x).1 hx,h3⟩,fun ⟨h1,h2,x,hx,h3⟩=>⟨h1,h2,x,(h x).2 hx,h3⟩⟩
theorem form_mono {l l':Int} (hl:l' <= l):∀ {a:List Rn},form l a -> form l' a
 | [],_=>trivial
 | _ :: _,h=>⟨Int.le_trans hl h.1,h.2⟩
theorem form_ge:∀ {a:List Rn} {l:Int} {n:Int},form l a -> mem a n -> l <= n
 | [],_,n,_,h=>absurd h (mem_nil n)
 | r :: a,l,n,hf,h=>by
  rcases (mem_cons r a n).1 h with h | h
  ·have:=hf.1;omega
  ·have:=form_ge hf.2.2.2 h;have:=hf.1;have:=hf.2.1;omega
theorem form_unique:∀ {a b:List Rn} {l:Int},1 <= l -> form l a -> form l b -> (∀ n,mem a n↔mem b n) -> a=b
 | [],[],_,_,_,_,_=>rfl
 | [],s :: b,l,hl,_,hb,h=>absurd ((h s.lo).2 ((mem_cons s b s.lo).2 (Or.inl ⟨by have:=hb.1;omega,by have:=hb.2;omega,Int.le_refl _,hb.2.1⟩))) (mem_nil _)
 | r :: a,[],l,hl,ha,_,h=>absurd ((h r.lo).1 ((mem_cons r a r.lo).2 (Or.inl ⟨by have:=ha.1;omega,by have:=ha.2;omega,Int.le_refl _,ha.2.1⟩))) (mem_nil _)
 | r :: a,s :: b,l,hl,ha,hb,h=>by
  have a1:=ha.1;have a2:=ha.2.1;have a3:=ha.2.2.1;have a4:=ha.2.2.2;have b1:=hb.1;have b2:=hb.2.1;have b3:=hb.2.2.1;have b4:=hb.2.2.2
  have ge:∀ {x:Rn} {c:List Rn} {n:Int},form (x.hi+2) c -> x.lo <= x.hi -> mem (x :: c) n -> x.lo <= n:=fun {x c n} hf hx hm=>by
   rcases (mem_cons x c n).1 hm with e | e
   ·exact e.2.2.1
   ·have:=form_ge hf e;omega
  have e1:s.lo <= r.lo:=ge b4 b2 ((h r.lo).1 ((mem_cons r a r.lo).2 (Or.inl ⟨by omega,by omega,Int.le_refl _,a2⟩)));have e2:r.lo <= s.lo:=ge a4 a2 ((h s.lo).2 ((mem_cons s b s.lo).2 (Or.inl ⟨by omega,by omega,Int.le_refl _,b2⟩)))
  have e3:¬ r.hi < s.hi:=fun hlt=>by
   have:=(h (r.hi+1)).2 ((mem_cons s b _).2 (Or.inl ⟨by omega,by omega,by omega,by omega⟩));rcases (mem_cons r a _).1 this with e | e
   ·omega
   ·have:=form_ge a4 e;omega
  have e4:¬ s.hi < r.hi:=fun hlt=>by
   have:=(h (s.hi+1)).1 ((mem_cons r a _).2 (Or.inl ⟨by omega,by omega,by omega,by omega⟩));rcases (mem_cons s b _).1 this with e | e
   ·omega
   ·have:=form_ge b4 e;omega
  have er:r=s:=by
   obtain ⟨r1,r2⟩:=r;obtain ⟨s1,s2⟩:=s;simp at e1 e2 e3 e4;rw [show r1=s1 by omega,show r2=s2 by omega]
  subst er;rw [form_unique (l:=r.hi+2) (by omega) a4 b4 (fun n=>?_)];constructor
  ·intro hm;have hge:=form_ge a4 hm;rcases (mem_cons r b n).1 ((h n).1 ((mem_cons r a n).2 (Or.inr hm))) with e | e
   ·omega
   ·exact e
  ·intro hm;have hge:=form_ge b4 hm;rcases (mem_cons r a n).1 ((h n).2 ((mem_cons r b n).2 (Or.inr hm))) with e | e
   ·omega
   ·exact e
theorem form_len:∀ {a:List Rn} {l:Int},form l a -> a=[]∨2 * (a.length:Int)+l <= 1000000002
 | [],_,_=>Or.inl rfl
 | r :: a,l,h=>by
  right;have h1:=h.1;have h2:=h.2.1;have h3:=h.2.2.1;rcases form_len h.2.2.2 with e | e
  ·subst e;simp;omega
  ·simp only [List.length_cons];omega
theorem form_small {a:List Rn} {l:Int} (hl:1 <= l) (h:form l a):a.length <= 500000001:=by
 rcases form_len h with e | e
 ·subst e;simp
 ·omega
def NormOf (a R:List Rn):Prop:=form 1 R/\∀ n,mem R n↔mem a n
theorem NormOf.unique {a R R':List Rn} (h:NormOf a R) (h':NormOf a R'):R=R':=form_unique (Int.le_refl _) h.1 h'.1 (fun n=>(h.2 n).trans (h'.2 n).symm)
theorem NormOf.self {a:List Rn} (h:form 1 a):NormOf a a:=⟨h,fun _=>Iff.rfl⟩
theorem form_snoc:∀ {i:List Rn} {l:Int} {x r:Rn},form l (i++[x]) -> x.hi+2 <= r.lo -> r.lo <= r.hi -> r.hi <= 1000000000 -> form l (i++[x]++[r])
 | [],_,_,_,h,h1,h2,h3=>⟨h.1,h.2.1,h.2.2.1,h1,h2,h3,trivial⟩
 | _ :: _,_,_,_,h,h1,h2,h3=>⟨h.1,h.2.1,h.2.2.1,form_snoc h.2.2.2 h1 h2 h3⟩
theorem form_up:∀ {i:List Rn} {l:Int} {x y:Rn},form l (i++[x]) -> y.lo=x.lo -> x.hi <= y.hi -> y.hi <= 1000000000 -> form l (i++[y])
 | [],_,_,_,h,h1,h2,h3=>⟨by have:=h.1;omega,by have:=h.2.1;omega,h3,trivial⟩
 | _ :: _,_,_,_,h,h1,h2,h3=>⟨h.1,h.2.1,h.2.2.1,form_up h.2.2.2 h1 h2 h3⟩
theorem form_last:∀ {i:List Rn} {l:Int} {x:Rn},form l (i++[x]) -> l <= x.lo/\x.lo <= x.hi/\x.hi <= 1000000000
 | [],_,_,h=>⟨h.1,h.2.1,h.2.2.1⟩
 | r :: i,l,x,h=>by have:=form_last h.2.2.2;have:=h.1;have:=h.2.1;omega
def clip (r:Rn):Rn:=⟨max r.lo 1,min r.hi 1000000000⟩
def clips (a:List Rn):List Rn:=(a.map clip).filter (fun c=>decide (c.lo <= c.hi))
theorem clips_mem (a:List Rn) (n:Int):mem (clips a) n↔mem a n:=by
 constructor
 ·rintro ⟨h1,h2,x,hx,h3⟩;obtain ⟨hm,_⟩:=List.mem_filter.1 hx;obtain ⟨r,hr,rfl⟩:=List.mem_map.1 hm;unfold clip at h3;exact ⟨h1,h2,r,hr,by simp at h3;omega,by simp at h3;omega⟩
 ·rintro ⟨h1,h2,r,hr,h3⟩
  have hc:(clip r).lo <= n/\n <= (clip r).hi:=by unfold clip;simp;omega
  exact ⟨h1,h2,clip r,List.mem_filter.2 ⟨List.mem_map.2 ⟨r,hr,rfl⟩,decide_eq_true (by omega)⟩,hc⟩
theorem clips_in (a:List Rn) (x:Rn) (h:x∈clips a):1 <= x.lo/\x.lo <= x.hi/\x.hi <= 1000000000:=by
 obtain ⟨hm,hd⟩:=List.mem_filter.1 h;obtain ⟨r,_,rfl⟩:=List.mem_map.1 hm;have:=of_decide_eq_true hd;unfold clip at *;simp at *;omega
structure MgInv (P acc:List Rn):Prop where
 frm:form 1 acc
 mm:∀ n,mem acc n↔mem P n
 low:∀ x,x∈acc -> ∃ p,p∈P/\x.lo=p.lo
theorem MgInv.start:MgInv [] []:=⟨trivial,fun _=>Iff.rfl,fun x h=>by cases h⟩
theorem MgInv.first {P:List Rn} {r:Rn} (h:MgInv P []) (h1:1 <= r.lo) (h2:r.lo <= r.hi) (h3:r.hi <= 1000000000):MgInv (P++[r]) [r]:=by
 refine ⟨⟨h1,h2,h3,trivial⟩,fun n=>?_,fun x hx=>?_⟩
 ·rw [mem_append,<- h.mm n];exact ⟨Or.inr,fun e=>e.elim (fun e=>absurd e (mem_nil n)) id⟩
 ·obtain rfl:=List.mem_singleton.1 hx;exact ⟨x,by simp,rfl⟩
theorem MgInv.new {P i:List Rn} {x r:Rn} (h:MgInv P (i++[x])) (hg:¬ r.lo <= x.hi+1) (h2:r.lo <= r.hi) (h3:r.hi <= 1000000000):MgInv (P++[r]) (i++[x]++[r]):=by
 refine ⟨form_snoc h.frm (by omega) h2 h3,fun n=>?_,fun y hy=>?_⟩
 ·rw [mem_append,mem_append P,h.mm n]
 ·rcases List.mem_append.1 hy with e | e
  ·obtain ⟨p,hp,e⟩:=h.low y e;exact ⟨p,List.mem_append_left _ hp,e⟩
  ·obtain rfl:=List.mem_singleton.1 e;exact ⟨y,by simp,rfl⟩
theorem MgInv.join {P i:List Rn} {x r:Rn} (h:MgInv P (i++[x])) (hs:∀ p,p∈P -> p.lo <= r.lo) (hg:r.lo <= x.hi+1) (_:r.lo <= r.hi) (h3:r.hi <= 1000000000):MgInv (P++[r]) (i++[⟨x.lo,max x.hi r.hi⟩]):=by
 have hl:=form_last h.frm
 have hxr:x.lo <= r.lo:=by obtain ⟨p,hp,e⟩:=h.low x (by simp);have:=hs p hp;omega
 refine ⟨form_up h.frm rfl (by simp;omega) (by simp;omega),fun n=>?_,fun y hy=>?_⟩
 ·have:=h.mm n;rw [mem_append,mem_one] at this;rw [mem_append,mem_one,mem_append P,mem_one,<- this];simp only;constructor
  ·rintro (e | ⟨e1,e2,e3,e4⟩)
   ·exact Or.inl (Or.inl e)
   ·by_cases c:n <= x.hi
    ·exact Or.inl (Or.inr ⟨e1,e2,e3,c⟩)
    ·exact Or.inr ⟨e1,e2,by omega,by omega⟩
  ·rintro ((e | ⟨e1,e2,e3,e4⟩) | ⟨e1,e2,e3,e4⟩)
   ·exact Or.inl e
   ·exact Or.inr ⟨e1,e2,e3,by omega⟩
   ·exact Or.inr ⟨e1,e2,by omega,by omega⟩
 ·rcases List.mem_append.1 hy with e | e
  ·obtain ⟨p,hp,e⟩:=h.low y (List.mem_append_left _ e);exact ⟨p,List.mem_append_left _ hp,e⟩
  ·obtain rfl:=List.mem_singleton.1 e;obtain ⟨p,hp,e⟩:=h.low x (by simp);exact ⟨p,List.mem_append_left _ hp,e⟩
end
section
open Go.RowKit

structure Sl where
 ao:Option Addr
 n:Nat
 cap:Nat
 L:List Rn
def tot:List Sl -> Nat
 | []=>0
 | s :: r=>s.n+tot r
def cat:List Sl -> List Rn
 | []=>[]
 | s :: r=>s.L++cat r
structure CSrc (w:World) (ao:Option Addr) (q:Nat) (X:List Sl):Prop where
 len:X.length=q
 nil:ao=none -> q=0
 cell:∀ ad,ao=some ad -> ∀ t s,X[t]? = some s -> w.cell? (ad.add t)=some (.slice s.ao s.n s.cap)
 src:∀ s,s∈X -> RSrc w s.ao s.n s.cap s.L
 big:q <= 8796093022207
theorem CSrc.below {w w':World} {ao:Option Addr} {q:Nat} {X:List Sl} (h:CSrc w ao q X) (hb:Below w.heap.size w w'):CSrc w' ao q X:=
 ⟨h.len,h.nil,fun ad ha t s hs=>by have:=h.cell ad ha t s hs;rw [hb.cell (World.block_lt_of_cell? _ _ this)];exact this,fun s hs=>(h.src s hs).below hb,h.big⟩
theorem CSrc.at {w:World} {ao:Option Addr} {q:Nat} {X:List Sl} (h:CSrc w ao q X) (k:Nat) (hk:k < q):∃ ad s,ao=some ad/\X[k]? = some s/\w.cell? (ad.add k)=some (.slice s.ao s.n s.cap)/\RSrc w s.ao s.n s.cap s.L:=by
 have hk':k < X.length:=by rw [h.len];exact hk
 cases ao with
 | none=>have:=h.nil rfl;omega
 | some ad=>exact ⟨ad,X[k],rfl,List.getElem?_eq_getElem hk',h.cell ad rfl k _ (List.getElem?_eq_getElem hk'),h.src _ (List.getElem_mem hk')⟩
end
end Go.Proofs.YtaphmhbmhcahaabGreat
