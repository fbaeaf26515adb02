/- PKa QJa RPv -/
import Derived.Test.YtaphmhbmhcahaabGreatSn00
import Derived.Deep.RegionLaw
import Derived.Maps.AppendAt
namespace Go.Proofs.YtaphmhbmhcahaabGreat
section
open Go.RowKit

structure Sn where
 rep:Int
 lo:Int
 hi:Int
instance:DecidableEq Sn:=fun a b=>decidable_of_iff (a.rep=b.rep/\a.lo=b.lo/\a.hi=b.hi) ⟨fun ⟨h1,h2,h3⟩=>by cases a;cases b;simp_all,fun h=>by subst h;exact ⟨rfl,rfl,rfl⟩⟩
def sn0:Sn:=⟨0,0,0⟩
instance:Inhabited Sn:=⟨sn0⟩
def SC (s:Sn):Array Value:=#[.int .i64 s.rep,.int .i64 s.lo,.int .i64 s.hi]
abbrev SV (s:Sn):Value:=.agg (SC s)
theorem SC_size (s:Sn):(SC s).size=3:=rfl
theorem SC_one (s:Sn):∀ v∈(SC s).toList,v.oneCell'=true:=by
 intro v hv;simp [SC] at hv;rcases hv with rfl | rfl | rfl <;> rfl
theorem cells_SV (s:Sn):(SV s).cells=SC s:=by simp [Value.cells]
theorem zero_SC:(#[.int .i64 0,.int .i64 0,.int .i64 0]:Array Value)=SC sn0:=rfl
theorem fold_SC (s:Sn):Array.foldl (fun cs x=>cs.setIfInBounds x.snd x.fst) (SC sn0) (SC s).zipIdx 0 3=SC s:=rfl
theorem build_SC (x y z:Int):(((SC sn0).setIfInBounds 0 (.int .i64 x)).setIfInBounds 1 (.int .i64 y)).setIfInBounds 2 (.int .i64 z)=SC ⟨x,y,z⟩:=rfl
structure SnAt (w:World) (p:Addr) (s:Sn):Prop where
 c0:w.cell? p=some (.int .i64 s.rep)
 c1:w.cell? (p.add 1)=some (.int .i64 s.lo)
 c2:w.cell? (p.add 2)=some (.int .i64 s.hi)
theorem SnAt.on {w w':World} {p:Addr} {s:Sn} (S:SnAt w p s) (hb:Below w.heap.size w w'):SnAt w' p s:=by
 have h0:=World.block_lt_of_cell? _ _ S.c0;exact ⟨by rw [hb.cell h0];exact S.c0,by rw [hb.cell (by rw [block_add];exact h0)];exact S.c1,by rw [hb.cell (by rw [block_add];exact h0)];exact S.c2⟩
def SBox (w:World) (g:Nat) (s:Sn):Prop:=w.heap[g]? = some (.cells (SC s) 93 (0,0))
theorem SBox.lt {w:World} {g:Nat} {s:Sn} (h:SBox w g s):g < w.heap.size:=(Array.getElem?_eq_some_iff.1 h).1
theorem SBox.at {w:World} {g:Nat} {s:Sn} (h:SBox w g s):w.cell? ⟨g,0,none⟩=some (.int .i64 s.rep)/\w.cell? ⟨g,1,none⟩=some (.int .i64 s.lo)/\w.cell? ⟨g,2,none⟩=some (.int .i64 s.hi):=by
 unfold SBox at h;refine ⟨?_,?_,?_⟩ <;> simp [World.cell?,h,SC]
theorem SBox.below {w w':World} {g:Nat} {s:Sn} (h:SBox w g s) (hb:Below w.heap.size w w'):SBox w' g s:=(hb.block g h.lt).trans h
theorem sbox_new (w:World) (s:Sn):SBox (w.alloc (.cells (SC s) 93)) w.heap.size s:=by unfold SBox;rw [heap_alloc_new]
def ldS (v:Value):Sem Value:=Instr.loadAt 93 v
theorem ldS_eq (v:Value):Instr.loadAt 93 v=ldS v:=rfl
def stS (p v:Value):Sem Unit:=Instr.storeAt 93 p v
theorem stS_eq (p v:Value):Instr.storeAt 93 p v=stS p v:=rfl
theorem sizeS:(Tryz.prog.info? 93).map (·.size)=some 3:=by kernel_rfl
theorem infoS3:(Tryz.prog.info? 93).map (fun i=>(i.zero,i.size,i.bytes))=some (some (.agg #[.int .i64 0,.int .i64 0,.int .i64 0]),3,24):=by kernel_rfl
theorem run_ldS {w:World} {p:Addr} {s:Sn} (A:SnAt w p s):(ldS (.pointer (some p))).run Tryz.prog w = .ok (SV s) w:=by
 have hl:=run_loadCells_list (P:=Tryz.prog) (w:=w) p (SC s).toList (fun j v hv=>by
  match j,hv with
  | 0,hv=>cases hv;rw [add_zero];exact A.c0
  | 1,hv=>cases hv;exact A.c1
  | 2,hv=>cases hv;exact A.c2
  | j+3,hv=>simp [SC] at hv)
 unfold ldS;simp only [Instr.loadAt,Instr.sureAddr,Sem.run_bind,Sem.run_pure,Result.andThen]
 cases hq:Tryz.prog.info? 93 with
 | none=>have:=sizeS;simp [hq] at this
 | some x =>
  have hs:x.size=3:=by have:=sizeS;simpa [hq] using this
  have hagg:(isAgg 93).run Tryz.prog w = .ok true w:=by
   unfold isAgg;rw [Sem.run_bind,run_underlying Tryz.underlying93 w];rfl
  have e2:(SC s).toList.length=3:=rfl;rw [e2] at hl;simp [loadVar,Sem.run_bind,hagg,sizeOf,typeInfo,hq,hs,hl,SV]
theorem run_stS {w:World} {g:Nat} {s s':Sn} (A:SBox w g s):(stS (.pointer (some ⟨g,0,none⟩)) (SV s')).run Tryz.prog w = .ok () (w.setRow g (SC s')):=by
 unfold stS;have h:=run_storeCells_from (P:=Tryz.prog) g 93 (SC s').toList 0 (SC s) w A (by simp [SC]) (SC_one s')
 cases hq:Tryz.prog.info? 93 with
 | none=>have:=sizeS;simp [hq] at this
 | some x =>
  have hs:x.size=3:=by have:=sizeS;simpa [hq] using this
  simp only [Instr.storeAt,Instr.sureAddr,Sem.run_bind,Sem.run_pure,Result.andThen,storeVar,sizeOf,typeInfo,cells_SV,SC_size];simp at h;simp [h,hq,hs]
theorem madeS (w:World) (s:Sn) (g:Nat) (hg:w.heap.size=g):∃ w':World,(stS (.pointer (some ⟨g,0,none⟩)) (SV s)).run Tryz.prog (w.alloc (.cells (SC sn0) 93)) = .ok () w'/\SBox w' g s/\Below w.heap.size w w'/\w'.heap.size=w.heap.size+1:=by
 subst hg;exact ⟨_,run_stS (sbox_new w sn0),setRow_heap _ _ _ _ _ _ (sbox_new w sn0),below_setRow (below_new w _) (Nat.le_refl _),by simp [World.setRow]⟩
structure SSrc (w:World) (ao:Option Addr) (m c:Nat) (L:List Sn):Prop where
 len:L.length=m
 nil:ao=none -> m=0/\c=0
 cell:∀ ad,ao=some ad -> ∀ t,t < m -> SnAt w (ad.add (t * 3)) (L.getD t sn0)
 big:m <= 5864062014805
 cap:m <= c
theorem SSrc.below {w w':World} {ao:Option Addr} {m c:Nat} {L:List Sn} (h:SSrc w ao m c L) (hb:Below w.heap.size w w'):SSrc w' ao m c L:=
 ⟨h.len,h.nil,fun ad ha t ht=>(h.cell ad ha t ht).on hb,h.big,h.cap⟩
theorem SSrc.at {w:World} {ao:Option Addr} {m c:Nat} {L:List Sn} (h:SSrc w ao m c L) (k:Nat) (hk:k < m):∃ ad,ao=some ad/\SnAt w (ad.add (k * 3)) (L.getD k sn0):=by
 cases ao with
 | none=>have:=h.nil rfl;omega
 | some ad=>exact ⟨ad,rfl,h.cell ad rfl k hk⟩
theorem SSrc.empty (w:World):SSrc w none 0 0 []:=⟨rfl,fun _=>⟨rfl,rfl⟩,(fun ad h=>by cases h),by omega,Nat.le_refl _⟩
theorem SSrc.spot {w:World} {ad:Addr} {m c:Nat} {L:List Sn} (h:SSrc w (some ad) m c L) (hm:0 < m):∃ b o,ad=⟨b,o,none⟩:=by
 have:=World.cell?_spot (h.cell ad rfl 0 hm).c0;obtain ⟨b,o,s⟩:=ad
 have hs:s=none:=by simpa [Addr.add] using this
 exact ⟨b,o,by rw [hs]⟩
theorem SSrc.off {w w':World} {ao:Option Addr} {m c:Nat} {L:List Sn} (h:SSrc w ao m c L) (hk:∀ ad,ao=some ad -> w'.heap[ad.block]? = w.heap[ad.block]?):SSrc w' ao m c L:=by
 refine ⟨h.len,h.nil,fun ad ha t ht=>?_,h.big,h.cap⟩;have A:=h.cell ad ha t ht
 have e:∀ m,w'.cell? (ad.add m)=w.cell? (ad.add m):=fun m=>by unfold World.cell?;rw [block_add,hk ad ha]
 exact ⟨by rw [e];exact A.c0,by have:=A.c1;rw [add_add] at this ⊢;rw [e];exact this,by have:=A.c2;rw [add_add] at this ⊢;rw [e];exact this⟩
def scs (L:List Sn):List Value:=(L.map (fun r=>(SC r).toList)).flatten
theorem scs_append (L R:List Sn):scs (L++R)=scs L++scs R:=by simp [scs]
theorem scs_one (r:Sn):scs [r]=(SC r).toList:=by simp [scs]
theorem scs_at (L:List Sn) (t j:Nat) (ht:t < L.length) (hj:j < 3):(scs L)[t * 3+j]? = (SC (L.getD t sn0)).toList[j]?:=by
 induction L generalizing t with
 | nil=>simp at ht
 | cons a L ih =>
  have e:scs (a :: L)=(SC a).toList++scs L:=rfl
  cases t with
  | zero=>rw [e,List.getElem?_append_left (by simp [SC];omega)];simp [List.getD]
  | succ t =>
   rw [e,List.getElem?_append_right (by simp [SC];omega)];have h:=ih t (by simpa using ht)
   have e4:(t+1) * 3+j - (SC a).toList.length=t * 3+j:=by simp [SC];omega
   rw [e4,h];simp [List.getD]
structure OwnS (B0 B:Nat) (w w':World) (ao:Option Addr) (cap:Nat) (acc:List Sn):Prop where
 own:w'.ownsRow B 93 3 (.slice ao acc.length cap) acc.length (scs acc)
 below:Below B0 w w'
 hB:B <= w'.heap.size
 hB0:B0 <= B
theorem OwnS.nil {B0 B:Nat} {w w':World} (hb:Below B0 w w') (hB:B <= w'.heap.size) (h0:B0 <= B):OwnS B0 B w w' none 0 []:=
 ⟨World.ownsRow_nil _ _ _ _,hb,hB,h0⟩
theorem OwnS.append {B0 B:Nat} {w w':World} {ao:Option Addr} {cap:Nat} {acc:List Sn} (O:OwnS B0 B w w' ao cap acc) (e:Sn) (C:Array Value) (hC:C=SC e) (hlen:acc.length < 5864062014805)
  {ops:Array Oper} {rest:List Oper} {o:Oper} {a:Act} {Q:Exit -> Act -> World -> Prop} (hgd:o.guard=none) (s x:Operand) (ho:o.op = .call { callee:=.builtin .append,args:=#[s,x],argTypes:=#[24,24] })
  (n:Nat) (hn:acc.length=n) (hs:a.eval s = .slice ao n cap) (hx:a.eval x = .slice (some ⟨w'.heap.size,0,none⟩) 1 1)
  (hK:∀ (g cap2:Nat) (w2:World),OwnS B0 B w w2 (some ⟨g,0,none⟩) cap2 (acc++[e]) -> (∀ k,k < w'.heap.size -> (Value.slice ao acc.length cap).ownBlock≠some k -> w2.heap[k]? = w'.heap[k]? /\ g≠k) -> wpList Tryz.prog ops Q rest (a.put o.dst (.slice (some ⟨g,0,none⟩) (n+1) cap2)) w2) :
  wpList Tryz.prog ops Q (o :: rest) a (w'.alloc (.cells C 93)):=by
 subst hn hC;obtain ⟨i0,hi,hz0,hz1,hz2⟩:=info_parts infoS3;have hB:=O.hB;have hB0:=O.hB0;refine wpList_append_own_at _ hgd s x 24 ho B 93 i0 (.agg #[.int .i64 0,.int .i64 0,.int .i64 0]) 3 24 Tryz.underlying24 hi hz0 hz1 hz2 rfl (by decide) _ acc.length (scs acc) hs (O.own.alloc _) ⟨w'.heap.size,0,none⟩ 1 1 (SC e).toList hx (by simp [SC]) ?_ ?_ (by unfold maxLen;omega) (by omega) (by simp;omega) ?_
 ·intro j u hj;rw [Addr.add_lit,Nat.zero_add,World.cell?_alloc_new];simpa using hj
 ·intro u hu;exact SC_one e u hu
 ·intro v' w2 hown hgrow _ hat
  rcases hown.2 with ⟨h0,h00⟩ | ⟨g,cap2,cur,hv,r⟩
  ·omega
  ·subst hv;have hrow:∀ k,(Value.slice ao acc.length cap).ownBlock=some k -> B <= k:=fun k hk=>(O.own.lt k hk).1;have hsz:=hgrow.size;rw [World.size_alloc] at hsz;refine hK g cap2 w2 ⟨?_,(O.below.alloc (by omega) _).grown hgrow (by simp;omega) (fun k hk=>by have:=hrow k hk;omega),by omega,hB0⟩ (fun k hk hne=>?_)
   ·rw [List.length_append,scs_append,scs_one];exact hown
   ·refine ⟨?_,fun e=>?_⟩
    ·rw [hgrow.block k (by simp;omega) (fun e=>hne e.symm)];exact Below.heap_alloc _ _ _ hk
    ·rcases hat with h | h
     ·exact hne (by rw [<- h,<- e];rfl)
     ·simp [Value.ownBlock] at h;omega
theorem OwnS.later {B0 B:Nat} {w w' w2:World} {ao:Option Addr} {cap:Nat} {acc:List Sn} (O:OwnS B0 B w w' ao cap acc) (hb:Below w'.heap.size w' w2):OwnS B0 B w w2 ao cap acc:=by
 refine ⟨⟨O.own.1,?_⟩,O.below.trans (hb.mono (Nat.le_trans O.hB0 O.hB)),Nat.le_trans O.hB hb.size,O.hB0⟩;rcases O.own.2 with h | ⟨g,cap2,cur,hv,hbg,hgg,r⟩
 ·exact Or.inl h
 ·exact Or.inr ⟨g,cap2,cur,hv,hbg,(hb.block g (Array.getElem?_eq_some_iff.1 hgg).1).trans hgg,r⟩
theorem OwnS.src {B0 B:Nat} {w w':World} {ao:Option Addr} {cap:Nat} {acc:List Sn} (O:OwnS B0 B w w' ao cap acc) (hl:acc.length <= 5864062014805):SSrc w' ao acc.length cap acc/\∀ ad,ao=some ad -> B <= ad.block:=by
 rcases O.own.2 with ⟨h0,h00⟩ | ⟨g,cap2,cur,hv,hbg,hgg,hnc,hcm,hcsz,htake⟩
 ·simp only [Value.slice.injEq] at h0;obtain ⟨rfl,e0,rfl⟩:=h0;exact ⟨⟨rfl,fun _=>⟨h00,rfl⟩,(fun ad h=>by cases h),hl,by omega⟩,fun ad h=>(by cases h)⟩
 ·simp only [Value.slice.injEq,true_and] at hv;obtain ⟨rfl,rfl⟩:=hv
  have cell:∀ t j,t < acc.length -> j < 3 -> w'.cell? ⟨g,t * 3+j,none⟩=(SC (acc.getD t sn0)).toList[j]?:=fun t j ht hj=>by
   rw [O.own.cellAt (t * 3+j) (by omega),scs_at _ t j ht hj]
  refine ⟨⟨rfl,fun h=>(by cases h),fun ad h t ht=>?_,hl,hnc⟩,fun ad h=>by obtain rfl:=Option.some.inj h;exact hbg⟩;obtain rfl:=Option.some.inj h;refine ⟨?_,?_,?_⟩
  ·rw [Addr.add_lit,Nat.zero_add];exact cell t 0 ht (by omega)
  ·rw [Addr.add_lit,Addr.add_lit,Nat.zero_add];exact cell t 1 ht (by omega)
  ·rw [Addr.add_lit,Addr.add_lit,Nat.zero_add];exact cell t 2 ht (by omega)
structure Pst where
 vec:List Int
 cloud:List Sn
instance:DecidableEq Pst:=fun a b=>decidable_of_iff (a.vec=b.vec/\a.cloud=b.cloud) ⟨fun ⟨h1,h2⟩=>by cases a;cases b;simp_all,fun h=>by subst h;exact ⟨rfl,rfl⟩⟩
structure Pv where
 vo:Option Addr
 vn:Nat
 vc:Nat
 co:Option Addr
 cn:Nat
 cc:Nat
 P:Pst
def PC (p:Pv):Array Value:=#[.slice p.vo p.vn p.vc,.slice p.co p.cn p.cc]
abbrev PV (p:Pv):Value:=.agg (PC p)
def pv0:Pv:=⟨none,0,0,none,0,0,⟨[],[]⟩⟩
theorem PC_size (p:Pv):(PC p).size=2:=rfl
theorem PC_one (p:Pv):∀ v∈(PC p).toList,v.oneCell'=true:=by
 intro v hv;simp [PC] at hv;rcases hv with rfl | rfl <;> rfl
theorem cells_PV (p:Pv):(PV p).cells=PC p:=by simp [Value.cells]
theorem zero_PC:(#[.slice none 0 0,.slice none 0 0]:Array Value)=PC pv0:=rfl
theorem fold_PC (p:Pv):Array.foldl (fun cs x=>cs.setIfInBounds x.snd x.fst) (PC pv0) (PC p).zipIdx 0 2=PC p:=rfl
structure PSrc (w:World) (p:Pv):Prop where
 vec:V.Src w p.vo p.vn p.vc p.P.vec
 cloud:SSrc w p.co p.cn p.cc p.P.cloud
 big:p.vn <= 17592186044415
theorem PSrc.below {w w':World} {p:Pv} (h:PSrc w p) (hb:Below w.heap.size w w'):PSrc w' p:=⟨h.vec.below hb,h.cloud.below hb,h.big⟩
theorem PSrc.zero (w:World):PSrc w pv0:=⟨⟨rfl,fun _=>⟨rfl,rfl⟩,fun ad h=>(by cases h)⟩,SSrc.empty w,by simp [pv0]⟩
structure PAt (w:World) (a:Addr) (p:Pv):Prop where
 c0:w.cell? a=some (.slice p.vo p.vn p.vc)
 c1:w.cell? (a.add 1)=some (.slice p.co p.cn p.cc)
theorem PAt.on {w w':World} {a:Addr} {p:Pv} (S:PAt w a p) (hb:Below w.heap.size w w'):PAt w' a p:=by
 have h0:=World.block_lt_of_cell? _ _ S.c0;exact ⟨by rw [hb.cell h0];exact S.c0,by rw [hb.cell (by rw [block_add];exact h0)];exact S.c1⟩
def PBox (w:World) (g:Nat) (p:Pv):Prop:=w.heap[g]? = some (.cells (PC p) 26 (0,0))
theorem PBox.lt {w:World} {g:Nat} {p:Pv} (h:PBox w g p):g < w.heap.size:=(Array.getElem?_eq_some_iff.1 h).1
theorem PBox.at {w:World} {g:Nat} {p:Pv} (h:PBox w g p):PAt w ⟨g,0,none⟩ p:=by
 unfold PBox at h;refine ⟨?_,?_⟩ <;> simp [Addr.add,World.cell?,h,PC]
theorem PBox.nums {w:World} {g:Nat} {p:Pv} (h:PBox w g p):w.cell? ⟨g,0,none⟩=some (.slice p.vo p.vn p.vc)/\w.cell? ⟨g,1,none⟩=some (.slice p.co p.cn p.cc):=by
 unfold PBox at h;refine ⟨?_,?_⟩ <;> simp [World.cell?,h,PC]
theorem PBox.below {w w':World} {g:Nat} {p:Pv} (h:PBox w g p) (hb:Below w.heap.size w w'):PBox w' g p:=(hb.block g h.lt).trans h
theorem pbox_new (w:World) (p:Pv):PBox (w.alloc (.cells (PC p) 26)) w.heap.size p:=by unfold PBox;rw [heap_alloc_new]
def ldP (v:Value):Sem Value:=Instr.loadAt 26 v
theorem ldP_eq (v:Value):Instr.loadAt 26 v=ldP v:=rfl
def stP (p v:Value):Sem Unit:=Instr.storeAt 26 p v
theorem stP_eq (p v:Value):Instr.storeAt 26 p v=stP p v:=rfl
theorem sizeP:(Tryz.prog.info? 26).map (·.size)=some 2:=by kernel_rfl
theorem run_lvP {w:World} {a:Addr} {p:Pv} (A:PAt w a p):(loadVar 26 a).run Tryz.prog w = .ok (PV p) w:=by
 have hl:=run_loadCells_list (P:=Tryz.prog) (w:=w) a (PC p).toList (fun j v hv=>by
  match j,hv with
  | 0,hv=>cases hv;rw [add_zero];exact A.c0
  | 1,hv=>cases hv;exact A.c1
  | j+2,hv=>simp [PC] at hv)
 cases hq:Tryz.prog.info? 26 with
 | none=>have:=sizeP;simp [hq] at this
 | some x =>
  have hs:x.size=2:=by have:=sizeP;simpa [hq] using this
  have hagg:(isAgg 26).run Tryz.prog w = .ok true w:=by
   unfold isAgg;rw [Sem.run_bind,run_underlying Tryz.underlying26 w];rfl
  have e2:(PC p).toList.length=2:=rfl;rw [e2] at hl;simp [loadVar,Sem.run_bind,hagg,sizeOf,typeInfo,hq,hs,hl,PV]
theorem run_ldP {w:World} {a:Addr} {p:Pv} (A:PAt w a p):(ldP (.pointer (some a))).run Tryz.prog w = .ok (PV p) w:=by
 unfold ldP;simp only [Instr.loadAt,Instr.sureAddr,Sem.run_bind,Sem.run_pure,Result.andThen];exact run_lvP A
theorem run_stP {w:World} {g:Nat} {p p':Pv} (A:PBox w g p):(stP (.pointer (some ⟨g,0,none⟩)) (PV p')).run Tryz.prog w = .ok () (w.setRow g (PC p')):=by
 unfold stP;have h:=run_storeCells_from (P:=Tryz.prog) g 26 (PC p').toList 0 (PC p) w A (by simp [PC]) (PC_one p')
 cases hq:Tryz.prog.info? 26 with
 | none=>have:=sizeP;simp [hq] at this
 | some x =>
  have hs:x.size=2:=by have:=sizeP;simpa [hq] using this
  simp only [Instr.storeAt,Instr.sureAddr,Sem.run_bind,Sem.run_pure,Result.andThen,storeVar,sizeOf,typeInfo,cells_PV,PC_size];simp at h;simp [h,hq,hs]
theorem madeP (w:World) (p:Pv) (g:Nat) (hg:w.heap.size=g):∃ w':World,(stP (.pointer (some ⟨g,0,none⟩)) (PV p)).run Tryz.prog (w.alloc (.cells (PC pv0) 26)) = .ok () w'/\PBox w' g p/\Below w.heap.size w w'/\w'.heap.size=w.heap.size+1:=by
 subst hg;exact ⟨_,run_stP (pbox_new w pv0),setRow_heap _ _ _ _ _ _ (pbox_new w pv0),below_setRow (below_new w _) (Nat.le_refl _),by simp [World.setRow]⟩
theorem resP {fn:Func} {t:Tmp} {w:World} {g:Nat} {p:Pv} (h:fn.results=#[.cell t 26]) {tmps:Array Value} (hp:tmps.getD t undef = .pointer (some ⟨g,0,none⟩)) (A:PBox w g p):(results fn tmps).run Tryz.prog w = .ok (PV p) w:=by
 have hl:=run_lvP A.at
 simp only [results,h];rw [Array.getD_eq_getD_getElem?] at hp;simp [hp,asAddr,hl]
structure PRow (w:World) (ao:Option Addr) (q:Nat) (X:List Pv):Prop where
 len:X.length=q
 nil:ao=none -> q=0
 cell:∀ ad,ao=some ad -> ∀ t p,X[t]? = some p -> PAt w (ad.add (t * 2)) p
 src:∀ p,p∈X -> PSrc w p
theorem PRow.below {w w':World} {ao:Option Addr} {q:Nat} {X:List Pv} (h:PRow w ao q X) (hb:Below w.heap.size w w'):PRow w' ao q X:=
 ⟨h.len,h.nil,fun ad ha t p hs=>(h.cell ad ha t p hs).on hb,fun p hp=>(h.src p hp).below hb⟩
theorem PRow.at {w:World} {ao:Option Addr} {q:Nat} {X:List Pv} (h:PRow w ao q X) (k:Nat) (hk:k < q):∃ ad p,ao=some ad/\X[k]? = some p/\PAt w (ad.add (k * 2)) p/\PSrc w p:=by
 have hk':k < X.length:=by rw [h.len];exact hk
 cases ao with
 | none=>have:=h.nil rfl;omega
 | some ad=>exact ⟨ad,X[k],rfl,List.getElem?_eq_getElem hk',h.cell ad rfl k _ (List.getElem?_eq_getElem hk'),h.src _ (List.getElem_mem hk')⟩
def pcs (X:List Pv):List Value:=(X.map (fun p=>(PC p).toList)).flatten
theorem pcs_at (L:List Pv) (t j:Nat) (p:Pv) (ht:L[t]? = some p) (hj:j < 2):(pcs L)[t * 2+j]? = (PC p).toList[j]?:=by
 induction L generalizing t with
 | nil=>simp at ht
 | cons a L ih =>
  have e:pcs (a :: L)=(PC a).toList++pcs L:=rfl
  cases t with
  | zero=>simp at ht;subst ht;rw [e,List.getElem?_append_left (by simp [PC];omega)];simp
  | succ t =>
   rw [e,List.getElem?_append_right (by simp [PC];omega)];have h:=ih t (by simpa using ht)
   have e4:(t+1) * 2+j - (PC a).toList.length=t * 2+j:=by simp [PC];omega
   rw [e4,h]
theorem prow_lit (W:World) (g:Nat) (X:List Pv) (C:Array Value) (hC:C=(pcs X).toArray) (T:TypeId) (n:Nat) (hl:X.length=n) (hg:W.heap[g]? = some (.cells C T (0,0))) (hs:∀ p,p∈X -> PSrc W p):PRow W (some ⟨g,0,none⟩) n X:=by
 subst hC
 have cell:∀ t j p,X[t]? = some p -> j < 2 -> W.cell? ⟨g,t * 2+j,none⟩=(PC p).toList[j]?:=by
  intro t j p ht hj;simp only [World.cell?,hg];simp [pcs_at X t j p ht hj]
 refine ⟨hl,fun h=>(by cases h),fun ad h t p ht=>?_,hs⟩;obtain rfl:=Option.some.inj h;refine ⟨?_,?_⟩
 ·rw [Addr.add_lit,Nat.zero_add];exact cell t 0 p ht (by omega)
 ·rw [Addr.add_lit,Addr.add_lit,Nat.zero_add];exact cell t 1 p ht (by omega)
end
section
open Go.RowKit

structure Si where
 ao:Option Addr
 n:Nat
 cap:Nat
 L:List Int
def siv (s:Si):Value:=.slice s.ao s.n s.cap
def si0:Si:=⟨none,0,0,[]⟩
theorem ics_single (e:Int):ics [e]=[.int .i64 e]:=rfl
def JA (F:Nat -> Si):Array Value:=((List.range 16).map fun r=>siv (F r)).toArray
abbrev JAv (F:Nat -> Si):Value:=.agg (JA F)
theorem JA_size (F:Nat -> Si):(JA F).size=16:=by simp [JA]
theorem JA_at (F:Nat -> Si) (t:Nat) (h:t < 16):(JA F)[t]? = some (siv (F t)):=by simp [JA,h]
theorem JA_congr {F G:Nat -> Si} (h:∀ r,r < 16 -> F r=G r):JA F=JA G:=by
 unfold JA;congr 1;apply List.map_congr_left;intro r hr;rw [h r (by simpa using hr)]
theorem JA_one (F:Nat -> Si):∀ v∈(JA F).toList,v.oneCell'=true:=by
 intro v hv;simp only [JA,List.mem_map] at hv;obtain ⟨r,_,rfl⟩:=hv;rfl
theorem cells_JAv (F:Nat -> Si):(JAv F).cells=JA F:=by simp [Value.cells]
theorem zeros_JA:(#[.slice none 0 0,.slice none 0 0,.slice none 0 0,.slice none 0 0,.slice none 0 0,.slice none 0 0,.slice none 0 0,.slice none 0 0,.slice none 0 0,.slice none 0 0,.slice none 0 0,.slice none 0 0,.slice none 0 0,.slice none 0 0,.slice none 0 0,.slice none 0 0]:Array Value)=JA (fun _=>si0):=rfl
def Jset (F:Nat -> Si) (k:Nat) (s:Si):Nat -> Si:=fun r=>if r=k then s else F r
theorem Jset_same (F:Nat -> Si) (k:Nat) (s:Si):Jset F k s k=s:=by simp [Jset]
theorem Jset_other (F:Nat -> Si) (k r:Nat) (s:Si) (h:r≠k):Jset F k s r=F r:=by simp [Jset,h]
def ISets (w:World) (g:Nat) (T:TypeId) (F:Nat -> Si):Prop:=w.heap[g]? = some (.cells (JA F) T (0,0))
section
variable {w w' : World} {g : Nat} {T : TypeId} {F : Nat -> Si}
theorem ISets.lt (h:ISets w g T F):g < w.heap.size:=(Array.getElem?_eq_some_iff.1 h).1
theorem ISets.cell (h:ISets w g T F) (t:Nat) (ht:t < 16):w.cell? ⟨g,t,none⟩=some (.slice (F t).ao (F t).n (F t).cap):=by
 unfold ISets at h;simp [World.cell?,h,JA_at F t ht,siv]
theorem ISets.frozen (h:ISets w g T F) (t:Nat):w.frozen? ⟨g,t,none⟩=false:=by unfold ISets at h;simp [World.frozen?,h]
theorem JA_set (F:Nat -> Si) (t:Nat) (s:Si):(JA F).setIfInBounds t (siv s)=JA (Jset F t s):=by
 apply Array.ext
 ·simp [JA]
 ·intro i h1 h2;simp [JA] at h2;by_cases h:t=i
  ·subst h;simp [JA,Jset]
  ·have:¬ i=t:=fun e=>h e.symm;simp [JA,Jset,h,this]
theorem ISets.set (h:ISets w g T F) (t:Nat) (s:Si) (v:Value) (hv:v=siv s):ISets (w.setCell ⟨g,t,none⟩ v) g T (Jset F t s):=by
 subst hv;unfold ISets at h ⊢;simp [World.setCell,h,Array.getElem?_modify,<- JA_set]
theorem ISets.congr {G:Nat -> Si} (h:ISets w g T F) (e:∀ r,r < 16 -> F r=G r):ISets w g T G:=by
 unfold ISets at h ⊢;rw [<- JA_congr e];exact h
theorem ISets.below (h:ISets w g T F) (hb:Below w.heap.size w w'):ISets w' g T F:=(hb.block g h.lt).trans h
theorem ISets.off {q:Nat} {v:Value} {t:Nat} (h:ISets w g T F) (hne:q≠g):ISets (w.setCell ⟨q,t,none⟩ v) g T F:=by
 unfold ISets at h ⊢;simp [World.setCell,Array.getElem?_modify,hne,h]
theorem isets_new (w:World) (T:TypeId) (F:Nat -> Si):ISets (w.alloc (.cells (JA F) T)) w.heap.size T F:=by unfold ISets;rw [heap_alloc_new]
end
def ldJ (v:Value):Sem Value:=Instr.loadAt 132 v
theorem ldJ_eq (v:Value):Instr.loadAt 132 v=ldJ v:=rfl
def stJ (p v:Value):Sem Unit:=Instr.storeAt 132 p v
theorem stJ_eq (p v:Value):Instr.storeAt 132 p v=stJ p v:=rfl
theorem sizeJ:(Tryz.prog.info? 132).map (·.size)=some 16:=by kernel_rfl
theorem run_lvJ {w:World} {g:Nat} {T:TypeId} {F:Nat -> Si} (A:ISets w g T F):(loadVar 132 ⟨g,0,none⟩).run Tryz.prog w = .ok (JAv F) w:=by
 have hl:=run_loadCells_list (P:=Tryz.prog) (w:=w) ⟨g,0,none⟩ (JA F).toList (fun j v hv=>by
  rw [Addr.add_lit,Nat.zero_add]
  have hj:j < 16:=by have:=(List.getElem?_eq_some_iff.1 hv).1;simpa [JA] using this
  rw [A.cell j hj];have:=JA_at F j hj;simp only [Array.getElem?_toList] at hv
  rw [this] at hv;exact hv)
 cases hq:Tryz.prog.info? 132 with
 | none=>have:=sizeJ;simp [hq] at this
 | some x =>
  have hs:x.size=16:=by have:=sizeJ;simpa [hq] using this
  have hagg:(isAgg 132).run Tryz.prog w = .ok true w:=by
   unfold isAgg;rw [Sem.run_bind,run_underlying Tryz.underlying132 w];rfl
  have e:(JA F).toList.length=16:=by simp [JA]
  rw [e] at hl;simp [loadVar,Sem.run_bind,hagg,sizeOf,typeInfo,hq,hs,hl,JAv]
theorem run_ldJ {w:World} {g:Nat} {T:TypeId} {F:Nat -> Si} (A:ISets w g T F):(ldJ (.pointer (some ⟨g,0,none⟩))).run Tryz.prog w = .ok (JAv F) w:=by
 unfold ldJ;simp only [Instr.loadAt,Instr.sureAddr,Sem.run_bind,Sem.run_pure,Result.andThen];exact run_lvJ A
theorem run_stJ {w:World} {g:Nat} {T:TypeId} {F F':Nat -> Si} (A:ISets w g T F):(stJ (.pointer (some ⟨g,0,none⟩)) (JAv F')).run Tryz.prog w = .ok () (w.setRow g (JA F')):=by
 unfold stJ;have h:=run_storeCells_from (P:=Tryz.prog) g T (JA F').toList 0 (JA F) w A (by simp [JA]) (JA_one F')
 cases hq:Tryz.prog.info? 132 with
 | none=>have:=sizeJ;simp [hq] at this
 | some x =>
  have hs:x.size=16:=by have:=sizeJ;simpa [hq] using this
  simp only [Instr.storeAt,Instr.sureAddr,Sem.run_bind,Sem.run_pure,Result.andThen,storeVar,sizeOf,typeInfo,cells_JAv,JA_size];simp at h;simp [h,hq,hs]
theorem ISets.setRow {w:World} {g:Nat} {T:TypeId} {F F':Nat -> Si} (A:ISets w g T F):ISets (w.setRow g (JA F')) g T F':=setRow_heap w g _ _ _ _ A
theorem resJ {fn:Func} {p:Tmp} {w:World} {g:Nat} {T:TypeId} {F:Nat -> Si} (h:fn.results=#[.cell p 132]) {tmps:Array Value} (hp:tmps.getD p undef = .pointer (some ⟨g,0,none⟩)) (A:ISets w g T F) :
  (results fn tmps).run Tryz.prog w = .ok (JAv F) w:=by
 have hl:=run_lvJ A;simp only [results,h];rw [Array.getD_eq_getD_getElem?] at hp;simp [hp,asAddr,hl]

def jblk (s:Si):Option Nat:=s.ao.map (·.block)
theorem ownBlock_siv (s:Si):(Value.slice s.ao s.n s.cap).ownBlock=jblk s:=by
 cases s with | mk ao n c L=>cases ao <;> rfl
structure OwnJ (B:Nat) (W:World) (F:Nat -> Si):Prop where
 own:∀ r,r < 32 -> W.ownsRow B 3 1 (.slice (F r).ao (F r).n (F r).cap) (F r).n (ics (F r).L)
 apart:∀ r s,r < 32 -> s < 32 -> r≠s -> ∀ k,jblk (F r)=some k -> jblk (F s)≠some k
def JOff (F:Nat -> Si) (q:Nat):Prop:=∀ r,r < 32 -> jblk (F r)≠some q
theorem OwnJ.nil (B:Nat) (W:World):OwnJ B W (fun _=>si0):=⟨fun _ _=>World.ownsRow_nil _ _ _ _,fun _ _ _ _ _ k h=>by cases h⟩
theorem OwnJ.lt {B:Nat} {W:World} {F:Nat -> Si} (O:OwnJ B W F) {r k:Nat} (hr:r < 32) (h:jblk (F r)=some k):B <= k/\k < W.heap.size:=(O.own r hr).lt k (by rw [ownBlock_siv];exact h)
theorem OwnJ.off {B:Nat} {W:World} {F:Nat -> Si} (O:OwnJ B W F) (q:Nat) (h:q < B∨W.heap.size <= q):JOff F q:=fun r hr e=>by have:=O.lt hr e;omega
theorem OwnJ.kept {B:Nat} {W W':World} {F:Nat -> Si} (O:OwnJ B W F) (h:∀ q,q < W.heap.size -> ¬ JOff F q -> W'.heap[q]? = W.heap[q]?):OwnJ B W' F:=by
 refine ⟨fun r hr=>⟨(O.own r hr).1,?_⟩,O.apart⟩;rcases (O.own r hr).2 with h0 | ⟨g,cap2,cur,hv,hbg,hgg,rr⟩
 ·exact Or.inl h0
 ·refine Or.inr ⟨g,cap2,cur,hv,hbg,(h g (Array.getElem?_eq_some_iff.1 hgg).1 (fun ho=>ho r hr ?_)).trans hgg,rr⟩;rw [<- ownBlock_siv,hv];rfl
theorem OwnJ.below {B:Nat} {W W':World} {F:Nat -> Si} (O:OwnJ B W F) (hb:Below W.heap.size W W'):OwnJ B W' F:=O.kept fun q hq _=>hb.block q hq
theorem OwnJ.len {B:Nat} {W:World} {F:Nat -> Si} (O:OwnJ B W F) {r:Nat} (hr:r < 32):(F r).L.length=(F r).n:=by
 have:=(O.own r hr).1;rw [ics_length] at this;omega
theorem OwnJ.grow {B:Nat} {W:World} {F:Nat -> Si} (O:OwnJ B W F) (hB:B <= W.heap.size) (k:Nat) (hk:k < 32) (e:Int) (ad:Addr) (h0:W.cell? (ad.add 0)=some (.int .i64 e)) (ty:TypeId) (hlen:(F k).n < 17592186044414) :
  ∃ g cap2 w2,(Builtin.append_ #[23,23] ty #[.slice (F k).ao (F k).n (F k).cap,.slice (some ad) 1 1]).run Tryz.prog W = .ok (.slice (some ⟨g,0,none⟩) ((F k).n+1) cap2) w2 /\
   OwnJ B w2 (Jset F k ⟨some ⟨g,0,none⟩,(F k).n+1,cap2,(F k).L++[e]⟩) /\
   (∀ q,q < W.heap.size -> JOff F q -> w2.heap[q]? = W.heap[q]? /\ JOff (Jset F k ⟨some ⟨g,0,none⟩,(F k).n+1,cap2,(F k).L++[e]⟩) q)/\W.heap.size <= w2.heap.size/\(∀ n0 w,n0 <= B -> Below n0 w W -> Below n0 w w2):=by
 obtain ⟨i0,hi0,hz0,hz1,hz2⟩:=info_parts infoI
 obtain ⟨v',w2,hrun,hown,hgrow,_,hat⟩:=run_append_own_at (P:=Tryz.prog) W B 23 ty 3 i0 (.int .i64 0) 1 8 Tryz.underlying23 hi0 hz0 hz1 hz2 rfl (by decide) (.slice (F k).ao (F k).n (F k).cap) (F k).n (ics (F k).L) (O.own k hk) ad 1 1 [.int .i64 e] rfl
  (fun j u hj=>by
   match j,hj with
   | 0,hj=>cases hj;exact h0
   | j+1,hj=>simp at hj)
  (fun u hu=>(by simp at hu;subst hu;rfl)) (by unfold maxLen;omega) (by omega) hB
 rcases hown.2 with ⟨h0,h00⟩ | ⟨g,cap2,cur,hv,hbg,hgg,hnc,hcm,hcsz,htake⟩
 ·omega
 ·subst hv
  rw [ownBlock_siv] at hgrow hat
  have hat':jblk (F k)=some g∨g=W.heap.size:=by
   rcases hat with h | h
   ·left;rw [<- h];rfl
   ·right;simp [Value.ownBlock] at h;exact h
  have hoff:∀ q,q < W.heap.size -> JOff F q -> JOff (Jset F k ⟨some ⟨g,0,none⟩,(F k).n+1,cap2,(F k).L++[e]⟩) q:=by
   intro q hq ho r hr;by_cases hrk:r=k
   ·subst hrk;rw [Jset_same];intro h;have hg:g=q:=Option.some.inj h;rcases hat' with h2 | h2
    ·exact ho r hr (by rw [h2,hg])
    ·omega
   ·rw [Jset_other _ _ _ _ hrk];exact ho r hr
  refine ⟨g,cap2,w2,hrun,⟨fun r hr=>?_,fun r s hr hs hrs q hq=>?_⟩,fun q hq ho=>⟨hgrow.block q hq (fun e=>ho k hk e.symm),hoff q hq ho⟩,hgrow.size,fun n0 w hn hb=>hb.grown hgrow (by omega) (fun q hq=>by have:=(O.lt hk hq).1;omega)⟩
  ·by_cases hrk:r=k
   ·subst hrk;rw [Jset_same]
    show w2.ownsRow B _ 1 (.slice (some ⟨g,0,none⟩) ((F r).n+1) cap2) ((F r).n+1) (ics ((F r).L++[e]))
    rw [ics_append,ics_single];exact hown
   ·rw [Jset_other _ _ _ _ hrk];refine ⟨(O.own r hr).1,?_⟩;rcases (O.own r hr).2 with h0 | ⟨g2,cap3,cur2,hv,hbg2,hgg2,rr⟩
    ·exact Or.inl h0
    ·have hb2:jblk (F r)=some g2:=by rw [<- ownBlock_siv,hv];rfl
     exact Or.inr ⟨g2,cap3,cur2,hv,hbg2,(hgrow.block g2 (O.lt hr hb2).2 (fun e=>O.apart r k hr hk hrk g2 hb2 e.symm)).trans hgg2,rr⟩
  ·have key:∀ x,x < 32 -> x≠k -> jblk (F x)≠some g:=by
    intro x hx hxk h;rcases hat' with h2 | h2
    ·exact O.apart x k hx hk hxk g h h2
    ·have:=(O.lt hx h).2;omega
   by_cases hrk:r=k
   ·subst hrk;rw [Jset_same] at hq;rw [Jset_other _ _ _ _ (fun h=>hrs h.symm)];have hg:g=q:=Option.some.inj hq;rw [<- hg];exact key s hs (fun h=>hrs h.symm)
   ·rw [Jset_other _ _ _ _ hrk] at hq;by_cases hsk:s=k
    ·subst hsk;rw [Jset_same];intro h;have hg:g=q:=Option.some.inj h;rw [<- hg] at hq;exact key r hr hrk hq
    ·rw [Jset_other _ _ _ _ hsk];exact O.apart r s hr hs hrs q hq
theorem OwnJ.append {B:Nat} {W:World} {F:Nat -> Si} (O:OwnJ B W F) (hB:B <= W.heap.size) (k:Nat) (hk:k < 32) (e:Int) (C:Array Value) (hC:C=#[.int .i64 e]) (hlen:(F k).n < 17592186044414)
  {ops:Array Oper} {rest:List Oper} {o:Oper} {a:Act} {Q:Exit -> Act -> World -> Prop} (hgd:o.guard=none) (s x:Operand) (ho:o.op = .call { callee:=.builtin .append,args:=#[s,x],argTypes:=#[23,23] })
  (ao:Option Addr) (n cap:Nat) (hf:(F k).ao=ao/\(F k).n=n/\(F k).cap=cap) (hs:a.eval s = .slice ao n cap) (hx:a.eval x = .slice (some ⟨W.heap.size,0,none⟩) 1 1)
  (hK:∀ (g cap2:Nat) (w2:World),OwnJ B w2 (Jset F k ⟨some ⟨g,0,none⟩,n+1,cap2,(F k).L++[e]⟩) -> (∀ q,q < W.heap.size -> JOff F q -> w2.heap[q]? = W.heap[q]? /\ JOff (Jset F k ⟨some ⟨g,0,none⟩,n+1,cap2,(F k).L++[e]⟩) q) -> W.heap.size < w2.heap.size -> (∀ n0 w,n0 <= B -> Below n0 w W -> Below n0 w w2) -> wpList Tryz.prog ops Q rest (a.put o.dst (.slice (some ⟨g,0,none⟩) (n+1) cap2)) w2) :
  wpList Tryz.prog ops Q (o :: rest) a (W.alloc (.cells C 3)):=by
 subst hC;obtain ⟨rfl,rfl,rfl⟩:=hf;have hO:OwnJ B (W.alloc (.cells (#[.int .i64 e]) 3)) F:=O.below (below_new W _)
 have c:∀ t,(W.alloc (.cells (#[.int .i64 e]) 3)).cell? ((⟨W.heap.size,0,none⟩:Addr).add t)=(#[.int .i64 e]:Array Value)[t]?:=fun t=>by rw [Addr.add_lit,Nat.zero_add,World.cell?_alloc_new]
 obtain ⟨g,cap2,w2,hrun,h1,h2,h3,h4⟩:=hO.grow (by simp;omega) k hk e ⟨W.heap.size,0,none⟩ ((c 0).trans rfl) o.type hlen;refine wpList_plain hgd fun K hK'=>?_;unfold Oper.wp execOp;simp only [ho,resolve,invoke,builtin,Sem.run_bind,Sem.run_pure,Result.andThen_ok,List.map_toArray,List.map_cons,List.map_nil,hs,hx,hrun];simp only [World.size_alloc] at h2 h3;refine hK' _ _ (hK g cap2 w2 h1 (fun q hq ho=>?_) (by omega) (fun n0 w hn hb=>h4 n0 w hn (hb.alloc (by omega) _)));have:=h2 q (by omega) ho;exact ⟨this.1.trans (Below.heap_alloc _ _ _ hq),this.2⟩
theorem OwnJ.step {B:Nat} {W:World} {F:Nat -> Si} (O:OwnJ B W F) (hB:B <= W.heap.size) (k:Nat) (hk:k < 32) (e:Int) (C:Array Value) (hC:C=#[.int .i64 e]) (hlen:(F k).n < 17592186044414)
  {ops:Array Oper} {o:Oper} {a:Act} {K:Act -> World -> Prop} {Q:Exit -> Act -> World -> Prop} {E:Prop} (hgd:o.guard=none) (s x:Operand) (ho:o.op = .call { callee:=.builtin .append,args:=#[s,x],argTypes:=#[23,23] })
  (ao:Option Addr) (n cap:Nat) (hf:(F k).ao=ao/\(F k).n=n/\(F k).cap=cap) (hs:a.eval s = .slice ao n cap) (g0:Nat) (hg0:W.heap.size=g0) (hx:a.eval x = .slice (some ⟨g0,0,none⟩) 1 1)
  (hK:∀ (g cap2:Nat) (w2:World),OwnJ B w2 (Jset F k ⟨some ⟨g,0,none⟩,n+1,cap2,(F k).L++[e]⟩) -> (∀ q,q < W.heap.size -> JOff F q -> w2.heap[q]? = W.heap[q]? /\ JOff (Jset F k ⟨some ⟨g,0,none⟩,n+1,cap2,(F k).L++[e]⟩) q) -> W.heap.size < w2.heap.size -> (∀ n0 w,n0 <= B -> Below n0 w W -> Below n0 w w2) -> K (a.put o.dst (.slice (some ⟨g,0,none⟩) (n+1) cap2)) w2) :
  if Region.wanted o (yielded ops a.tmps)=true then Oper.wp Tryz.prog o a (W.alloc (.cells C 3)).drew K Q else E:=by
 have hw:Region.wanted o (yielded ops a.tmps)=true:=by simp [Region.wanted,hgd]
 rw [if_pos hw];subst hC hg0;obtain ⟨rfl,rfl,rfl⟩:=hf;have hO:OwnJ B (W.alloc (.cells (#[.int .i64 e]) 3)).drew F:=(O.below (below_new W _)).below (below_drew1 _)
 have c:∀ t,(W.alloc (.cells (#[.int .i64 e]) 3)).drew.cell? ((⟨W.heap.size,0,none⟩:Addr).add t)=(#[.int .i64 e]:Array Value)[t]?:=fun t=>by
  rw [Addr.add_lit,Nat.zero_add]
  show (W.alloc _).cell? _=_
  rw [World.cell?_alloc_new]
 have hz:(W.alloc (.cells (#[.int .i64 e]) 3)).drew.heap.size=W.heap.size+1:=by show (W.alloc _).heap.size=_;simp
 obtain ⟨g,cap2,w2,hrun,h1,h2,h3,h4⟩:=hO.grow (by omega) k hk e ⟨W.heap.size,0,none⟩ ((c 0).trans rfl) o.type hlen;unfold Oper.wp;simp [execOp,ho,resolve,invoke,builtin,hs,hx,hrun,Result.andThen];rw [hz] at h2 h3;refine hK g cap2 w2 h1 (fun q hq ho=>?_) (by omega) (fun n0 w hn hb=>h4 n0 w hn ((hb.alloc (by omega) _).trans ((below_drew1 _).mono (by simp;omega))));have:=h2 q (by omega) ho;exact ⟨this.1.trans (Below.heap_alloc _ _ _ hq),this.2⟩
end
section

theorem form_push {acc:List Rn} {r:Rn} (h:form 1 acc) (hg:∀ i l,acc=i++[l] -> l.hi+2 <= r.lo) (h1:1 <= r.lo) (h2:r.lo <= r.hi) (h3:r.hi <= 1000000000):form 1 (acc++[r]):=by
 rcases List.eq_nil_or_concat acc with e | ⟨i,l,e⟩
 ·subst e;exact ⟨h1,h2,h3,trivial⟩
 ·rw [List.concat_eq_append] at e;subst e;exact form_snoc h (hg i l rfl) h2 h3
structure MtInv (x y x' y' acc:List Rn):Prop where
 frm:form 1 acc
 mm:∀ n,(mem acc n∨(mem x' n/\mem y' n))↔(mem x n/\mem y n)
 gap:∀ i l,acc=i++[l] -> ∀ n,mem x' n -> mem y' n -> l.hi+2 <= n
 fx:form 1 x'
 fy:form 1 y'
theorem MtInv.start {x y:List Rn} (hx:form 1 x) (hy:form 1 y):MtInv x y x y []:=
 ⟨trivial,fun n=>⟨fun h=>h.elim (fun e=>absurd e (mem_nil n)) id,Or.inr⟩,(fun i l h=>by cases i <;> cases h),hx,hy⟩
def met (acc:List Rn) (a b:Rn):List Rn:=if max a.lo b.lo <= min a.hi b.hi then acc++[⟨max a.lo b.lo,min a.hi b.hi⟩] else acc
theorem met_mem (acc:List Rn) (a b:Rn) (n:Int):mem (met acc a b) n↔mem acc n∨(mem [a] n/\mem [b] n):=by
 unfold met;rw [mem_one,mem_one]
 split
 ·rw [mem_append,mem_one];simp only;constructor
  ·rintro (e | e)
   ·exact Or.inl e
   ·exact Or.inr ⟨⟨e.1,e.2.1,by omega,by omega⟩,⟨e.1,e.2.1,by omega,by omega⟩⟩
  ·rintro (e | ⟨e,f⟩)
   ·exact Or.inl e
   ·exact Or.inr ⟨e.1,e.2.1,by omega,by omega⟩
 ·constructor
  ·exact Or.inl
  ·rintro (e | ⟨e,f⟩)
   ·exact e
   ·omega
theorem MtInv.form_met {x y xs ys acc:List Rn} {a b:Rn} (h:MtInv x y (a :: xs) (b :: ys) acc):form 1 (met acc a b):=by
 unfold met;have fa:=h.fx;have fb:=h.fy
 split
 ·refine form_push h.frm (fun i l e=>?_) ?_ ?_ ?_
  ·refine h.gap i l e (max a.lo b.lo) ((mem_cons _ _ _).2 (Or.inl ⟨?_,?_,?_,?_⟩)) ((mem_cons _ _ _).2 (Or.inl ⟨?_,?_,?_,?_⟩)) <;> (have:=fa.1;have:=fa.2.1;have:=fa.2.2.1;have:=fb.1;have:=fb.2.1;have:=fb.2.2.1;omega)
  ·have:=fa.1;simp only;omega
  ·simp only;assumption
  ·have:=fa.2.2.1;simp only;omega
 ·exact h.frm
theorem met_gap {x y xs ys acc i:List Rn} {a b l:Rn} (h:MtInv x y (a :: xs) (b :: ys) acc) (e:met acc a b=i++[l]):(∀ n,mem (a :: xs) n -> mem (b :: ys) n -> l.hi+2 <= n)∨l.hi=min a.hi b.hi:=by
 unfold met at e
 split at e
 ·right;have:=List.append_inj_right' e rfl;simp at this;rw [<- this]
 ·exact Or.inl (h.gap i l e)
theorem MtInv.left {x y xs ys acc:List Rn} {a b:Rn} (h:MtInv x y (a :: xs) (b :: ys) acc) (hlt:a.hi < b.hi):MtInv x y xs (b :: ys) (met acc a b):=by
 have fa:=h.fx;have fb:=h.fy;refine ⟨h.form_met,fun n=>?_,fun i l e n hx hy=>?_,form_mono (by have:=fa.1;have:=fa.2.1;omega) fa.2.2.2,fb⟩
 ·rw [<- h.mm n,met_mem];constructor
  ·rintro ((e | ⟨e,f⟩) | ⟨e,f⟩)
   ·exact Or.inl e
   ·exact Or.inr ⟨(mem_cons _ _ _).2 (Or.inl ((mem_one _ _).1 e)),(mem_cons _ _ _).2 (Or.inl ((mem_one _ _).1 f))⟩
   ·exact Or.inr ⟨(mem_cons _ _ _).2 (Or.inr e),f⟩
  ·rintro (e | ⟨e,f⟩)
   ·exact Or.inl (Or.inl e)
   ·rcases (mem_cons _ _ _).1 e with e | e
    ·rcases (mem_cons _ _ _).1 f with f | f
     ·exact Or.inl (Or.inr ⟨(mem_one _ _).2 e,(mem_one _ _).2 f⟩)
     ·have:=form_ge fb.2.2.2 f;omega
    ·exact Or.inr ⟨e,f⟩
 ·rcases met_gap h e with g | g
  ·exact g n ((mem_cons _ _ _).2 (Or.inr hx)) hy
  ·have:=form_ge fa.2.2.2 hx;omega
theorem MtInv.right {x y xs ys acc:List Rn} {a b:Rn} (h:MtInv x y (a :: xs) (b :: ys) acc) (hlt:¬ a.hi < b.hi):MtInv x y (a :: xs) ys (met acc a b):=by
 have fa:=h.fx;have fb:=h.fy;refine ⟨h.form_met,fun n=>?_,fun i l e n hx hy=>?_,fa,form_mono (by have:=fb.1;have:=fb.2.1;omega) fb.2.2.2⟩
 ·rw [<- h.mm n,met_mem];constructor
  ·rintro ((e | ⟨e,f⟩) | ⟨e,f⟩)
   ·exact Or.inl e
   ·exact Or.inr ⟨(mem_cons _ _ _).2 (Or.inl ((mem_one _ _).1 e)),(mem_cons _ _ _).2 (Or.inl ((mem_one _ _).1 f))⟩
   ·exact Or.inr ⟨e,(mem_cons _ _ _).2 (Or.inr f)⟩
  ·rintro (e | ⟨e,f⟩)
   ·exact Or.inl (Or.inl e)
   ·rcases (mem_cons _ _ _).1 f with f | f
    ·rcases (mem_cons _ _ _).1 e with e | e
     ·exact Or.inl (Or.inr ⟨(mem_one _ _).2 e,(mem_one _ _).2 f⟩)
     ·have:=form_ge fa.2.2.2 e;omega
    ·exact Or.inr ⟨e,f⟩
 ·rcases met_gap h e with g | g
  ·exact g n hx ((mem_cons _ _ _).2 (Or.inr hy))
  ·have:=form_ge fb.2.2.2 hy;omega
def MeetOf (a b R:List Rn):Prop:=form 1 R/\∀ n,mem R n↔mem a n/\mem b n
theorem MtInv.done {x y x' y' acc a b:List Rn} (h:MtInv x y x' y' acc) (he:x'=[]∨y'=[]) (hx:NormOf a x) (hy:NormOf b y):MeetOf a b acc:=by
 refine ⟨h.frm,fun n=>?_⟩;rw [<- hx.2 n,<- hy.2 n,<- h.mm n];constructor
 ·exact Or.inl
 ·rintro (e | ⟨e,f⟩)
  ·exact e
  ·rcases he with he | he
   ·subst he;exact absurd e (mem_nil n)
   ·subst he;exact absurd f (mem_nil n)
structure OtInv (p q acc:List Rn) (next:Int):Prop where
 frm:form 1 acc
 mm:∀ n,mem acc n↔(1 <= n/\n <= 1000000000/\n < next/\¬ mem p n)
 gap:∀ i l,acc=i++[l] -> l.hi+2 <= next
 lo:1 <= next
 hi:next <= 1000000001
 pm:∀ n,mem p n -> n < next
 rest:form next q
theorem OtInv.start {R:List Rn} (h:form 1 R):OtInv [] R [] 1:=
 ⟨trivial,fun n=>⟨fun e=>absurd e (mem_nil n),fun e=>by omega⟩,(fun i l h=>by cases i <;> cases h),Int.le_refl _,by omega,fun n e=>absurd e (mem_nil n),h⟩
def outs (acc:List Rn) (next lo:Int):List Rn:=if next < lo then acc++[⟨next,lo - 1⟩] else acc
theorem outs_mem (acc:List Rn) (next lo n:Int) (h1:1 <= next) (h3:lo <= 1000000001):mem (outs acc next lo) n↔mem acc n∨(next <= n/\n < lo):=by
 unfold outs
 split
 ·rw [mem_append,mem_one];simp only;constructor
  ·rintro (e | e)
   ·exact Or.inl e
   ·exact Or.inr (by omega)
  ·rintro (e | e)
   ·exact Or.inl e
   ·exact Or.inr (by omega)
 ·exact ⟨Or.inl,fun e=>e.elim id (fun e=>by omega)⟩
theorem outs_form {p q acc:List Rn} {next lo:Int} (h:OtInv p q acc next) (h3:lo <= 1000000001):form 1 (outs acc next lo):=by
 unfold outs
 split
 ·refine form_push h.frm (fun i l e=>h.gap i l e) h.lo ?_ ?_ <;> (simp only;omega)
 ·exact h.frm
theorem OtInv.step {p q acc:List Rn} {next:Int} {r:Rn} (h:OtInv p (r :: q) acc next):OtInv (p++[r]) q (outs acc next r.lo) (r.hi+1):=by
 have fr:=h.rest;have f1:=fr.1;have f2:=fr.2.1;have f3:=fr.2.2.1;have hlo:=h.lo;refine ⟨outs_form h (by omega),fun n=>?_,fun i l e=>?_,by omega,by omega,fun n hn=>?_,form_mono (by omega) fr.2.2.2⟩
 ·rw [outs_mem _ _ _ _ hlo (by omega),h.mm n,mem_append,mem_one];constructor
  ·rintro (e | e)
   ·exact ⟨e.1,e.2.1,by omega,fun c=>c.elim e.2.2.2 (fun c=>by omega)⟩
   ·exact ⟨by omega,by omega,by omega,fun c=>c.elim (fun c=>by have:=h.pm n c;omega) (fun c=>by omega)⟩
  ·rintro ⟨e1,e2,e3,e4⟩;by_cases c:n < next
   ·exact Or.inl ⟨e1,e2,c,fun d=>e4 (Or.inl d)⟩
   ·exact Or.inr ⟨by omega,Classical.byContradiction fun d=>e4 (Or.inr ⟨e1,e2,by omega,by omega⟩)⟩
 ·unfold outs at e
  split at e
  ·have:=List.append_inj_right' e rfl;simp at this;rw [<- this];simp only;omega
  ·have:=h.gap i l e;omega
 ·rw [mem_append,mem_one] at hn;rcases hn with e | e
  ·have:=h.pm n e;omega
  ·omega
def OutOf (a O:List Rn):Prop:=form 1 O/\∀ n,mem O n↔(1 <= n/\n <= 1000000000/\¬ mem a n)
theorem OtInv.done {R acc a:List Rn} {next:Int} (h:OtInv R [] acc next) (hR:NormOf a R):OutOf a (outs acc next 1000000001):=by
 refine ⟨outs_form h (Int.le_refl _),fun n=>?_⟩;rw [outs_mem _ _ _ _ h.lo (Int.le_refl _),h.mm n,<- hR.2 n];constructor
 ·rintro (e | e)
  ·exact ⟨e.1,e.2.1,e.2.2.2⟩
  ·exact ⟨by have:=h.lo;omega,by omega,fun c=>by have:=h.pm n c;omega⟩
 ·rintro ⟨e1,e2,e3⟩;by_cases c:n < next
  ·exact Or.inl ⟨e1,e2,c,e3⟩
  ·exact Or.inr ⟨by omega,by omega⟩
def MinusOf (a b R:List Rn):Prop:=form 1 R/\∀ n,mem R n↔mem a n/\¬ mem b n
theorem minus_of {a b O R:List Rn} (hO:OutOf b O) (h:MeetOf a O R):MinusOf a b R:=
 ⟨h.1,fun n=>by rw [h.2 n,hO.2 n];exact ⟨fun e=>⟨e.1,e.2.2.2⟩,fun e=>⟨e.1,e.1.1,e.1.2.1,e.2⟩⟩⟩
theorem form_empty {a:List Rn} {l:Int} (hl:1 <= l) (h:form l a) (he:∀ n,¬ mem a n):a=[]:=by
 cases a with
 | nil=>rfl
 | cons r a=>exact absurd ((mem_cons r a r.lo).2 (Or.inl ⟨by have:=h.1;omega,by have:=h.2;omega,Int.le_refl _,h.2.1⟩)) (he _)
def sz:List Rn -> Int
 | []=>0
 | r :: a=>(r.hi - r.lo+1)+sz a
theorem sz_bd:∀ {a:List Rn} {l:Int},form l a -> 0 <= sz a/\(a=[]∨sz a+l <= 1000000001)/\(sz a=0 -> a=[])
 | [],_,_=>⟨Int.le_refl _,Or.inl rfl,fun _=>rfl⟩
 | r :: a,l,h=>by
  have h1:=h.1;have h2:=h.2.1;have h3:=h.2.2.1;obtain ⟨i1,i2,i3⟩:=sz_bd h.2.2.2;refine ⟨by simp only [sz];omega,Or.inr ?_,fun e=>by simp only [sz] at e;omega⟩;simp only [sz];rcases i2 with e | e
  ·subst e;simp only [sz];omega
  ·omega
theorem sz_append (a b:List Rn):sz (a++b)=sz a+sz b:=by
 induction a with
 | nil=>simp [sz]
 | cons r a ih=>simp only [List.cons_append,sz,ih];omega
theorem sz_take:∀ (a:List Rn) (l:Int) (k:Nat),form l a -> 0 <= sz (a.take k)/\sz (a.take k) <= sz a:=by
 intro a
 induction a with
 | nil=>intro l k _;simp [sz]
 | cons r a ih =>
  intro l k h
  cases k with
  | zero=>have:=(sz_bd h).1;simp [sz] at *;exact this
  | succ k =>
   have:=ih _ k h.2.2.2;have:=h.2.1;simp only [List.take_succ_cons,sz];omega
end
end Go.Proofs.YtaphmhbmhcahaabGreat
