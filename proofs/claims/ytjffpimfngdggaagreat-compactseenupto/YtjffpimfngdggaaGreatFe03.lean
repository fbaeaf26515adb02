/- PSe PPl PMd QMi QMj -/
import Derived.Test.YtjffpimfngdggaaGreatFe00
import Derived.Test.YtjffpimfngdggaaGreatFe02
namespace Go.Proofs.YtjffpimfngdggaaGreat
section
open Go.RowKit

def slv (s:Sl):Value:=.slice s.ao s.n s.cap
def sl0:Sl:=⟨none,0,0,[]⟩
def SA (F:Nat -> Sl):Array Value:=((List.range 16).map fun r=>slv (F r)).toArray
abbrev SAv (F:Nat -> Sl):Value:=.agg (SA F)
theorem ziD (F:Nat -> Sl):(SA F).size=16:=by simp [SA]
theorem ziE (F:Nat -> Sl) (t:Nat) (h:t < 16):(SA F)[t]? = some (slv (F t)):=by simp [SA,h]
theorem zjk (F:Nat -> Sl):∀ v∈(SA F).toList,v.oneCell'=true:=by
 intro v hv;simp only [SA,List.mem_map] at hv;obtain ⟨r,_,rfl⟩:=hv;rfl
theorem xj (F:Nat -> Sl):(SAv F).cells=SA F:=by simp [Value.cells]
theorem x6:(#[.slice none 0 0,.slice none 0 0,.slice none 0 0,.slice none 0 0,.slice none 0 0,.slice none 0 0,.slice none 0 0,.slice none 0 0,.slice none 0 0,.slice none 0 0,.slice none 0 0,.slice none 0 0,.slice none 0 0,.slice none 0 0,.slice none 0 0,.slice none 0 0]:Array Value)=SA (fun _=>sl0):=rfl
def cG (w:World) (g:Nat) (F:Nat -> Sl):Prop:=w.heap[g]? = some (.cells (SA F) 136 (0,0))
def eN (F:Nat -> Sl) (k:Nat) (s:Sl):Nat -> Sl:=fun r=>if r=k then s else F r
theorem xD (F:Nat -> Sl) (k:Nat) (s:Sl):eN F k s k=s:=by simp [eN]
theorem qE (F:Nat -> Sl) (k r:Nat) (s:Sl) (h:r≠k):eN F k s r=F r:=by simp [eN,h]
section
variable {w w' : World} {g : Nat} {F : Nat -> Sl}
theorem cG.lt (h:cG w g F):g < w.heap.size:=(Array.getElem?_eq_some_iff.1 h).1
theorem cG.cell (h:cG w g F) (t:Nat) (ht:t < 16):w.cell? ⟨g,t,none⟩=some (.slice (F t).ao (F t).n (F t).cap):=by
 unfold cG at h;simp [World.cell?,h,ziE F t ht,slv]
theorem cG.frozen (h:cG w g F) (t:Nat):w.frozen? ⟨g,t,none⟩=false:=by unfold cG at h;simp [World.frozen?,h]
theorem zjj (F:Nat -> Sl) (t:Nat) (s:Sl):(SA F).setIfInBounds t (slv s)=SA (eN F t s):=by
 apply Array.ext
 ·simp [SA]
 ·intro i h1 h2;simp [SA] at h2;by_cases h:t=i
  ·subst h;simp [SA,eN]
  ·have:¬ i=t:=fun e=>h e.symm;simp [SA,eN,h,this]
theorem cG.set (h:cG w g F) (t:Nat) (s:Sl) (v:Value) (hv:v=slv s):cG (w.setCell ⟨g,t,none⟩ v) g (eN F t s):=by
 subst hv;unfold cG at h ⊢;simp [World.setCell,h,Array.getElem?_modify,<- zjj]
theorem cG.below (h:cG w g F) (hb:Below w.heap.size w w'):cG w' g F:=(hb.block g h.lt).trans h
theorem jv (w:World) (F:Nat -> Sl):cG (w.alloc (.cells (SA F) 136)) w.heap.size F:=by unfold cG;rw [heap_alloc_new]
end
def ldA (v:Value):Sem Value:=Instr.loadAt 136 v
theorem vM (v:Value):Instr.loadAt 136 v=ldA v:=rfl
def stA (p v:Value):Sem Unit:=Instr.storeAt 136 p v
theorem vJ (p v:Value):Instr.storeAt 136 p v=stA p v:=rfl
theorem oL:(Tryz.prog.info? 136).map (·.size)=some 16:=by kernel_rfl
theorem zef {w:World} {g:Nat} {F:Nat -> Sl} (A:cG w g F):(loadVar 136 ⟨g,0,none⟩).run Tryz.prog w = .ok (SAv F) w:=by
 have hl:=run_loadCells_list (P:=Tryz.prog) (w:=w) ⟨g,0,none⟩ (SA F).toList (fun j v hv=>by
  rw [Addr.add_lit,Nat.zero_add]
  have hj:j < 16:=by have:=(List.getElem?_eq_some_iff.1 hv).1;simpa [SA] using this
  rw [A.cell j hj];have:=ziE F j hj;simp only [Array.getElem?_toList] at hv
  rw [this] at hv;exact hv)
 cases hq:Tryz.prog.info? 136 with
 | none=>have:=oL;simp [hq] at this
 | some x =>
  have hs:x.size=16:=by have:=oL;simpa [hq] using this
  have dR:(isAgg 136).run Tryz.prog w = .ok true w:=by
   unfold isAgg;rw [Sem.run_bind,run_underlying Tryz.underlying136 w];rfl
  have e:(SA F).toList.length=16:=by simp [SA]
  rw [e] at hl;simp [loadVar,Sem.run_bind,dR,sizeOf,typeInfo,hq,hs,hl,SAv]
theorem wN {w:World} {g:Nat} {F:Nat -> Sl} (A:cG w g F):(ldA (.pointer (some ⟨g,0,none⟩))).run Tryz.prog w = .ok (SAv F) w:=by
 unfold ldA;simp only [Instr.loadAt,Instr.sureAddr,Sem.run_bind,Sem.run_pure,Result.andThen];exact zef A
theorem wM {w:World} {g:Nat} {F F':Nat -> Sl} (A:cG w g F):(stA (.pointer (some ⟨g,0,none⟩)) (SAv F')).run Tryz.prog w = .ok () (w.setRow g (SA F')):=by
 unfold stA;have h:=run_storeCells_from (P:=Tryz.prog) g 136 (SA F').toList 0 (SA F) w A (by simp [SA]) (zjk F')
 cases hq:Tryz.prog.info? 136 with
 | none=>have:=oL;simp [hq] at this
 | some x =>
  have hs:x.size=16:=by have:=oL;simpa [hq] using this
  simp only [Instr.storeAt,Instr.sureAddr,Sem.run_bind,Sem.run_pure,Result.andThen,storeVar,sizeOf,typeInfo,xj,ziD];simp at h;simp [h,hq,hs]
theorem cG.setRow {w:World} {g:Nat} {F F':Nat -> Sl} (A:cG w g F):cG (w.setRow g (SA F')) g F':=setRow_heap w g _ _ _ _ A
theorem Jk {fn:Func} {p:Tmp} {w:World} {g:Nat} {F:Nat -> Sl} (h:fn.results=#[.cell p 136]) {tmps:Array Value} (hp:tmps.getD p undef = .pointer (some ⟨g,0,none⟩)) (A:cG w g F) :
  (results fn tmps).run Tryz.prog w = .ok (SAv F) w:=by
 have hl:=zef A;simp only [results,h];rw [Array.getD_eq_getD_getElem?] at hp;simp [hp,asAddr,hl]

def blk (s:Sl):Option Nat:=s.ao.map (·.block)
theorem ja (s:Sl):(Value.slice s.ao s.n s.cap).ownBlock=blk s:=by
 cases s with | mk ao n c L=>cases ao <;> rfl
structure cY (B:Nat) (W:World) (F:Nat -> Sl):Prop where
 own:∀ r,r < 16 -> W.ownsRow B 182 2 (.slice (F r).ao (F r).n (F r).cap) (F r).n (rcs (F r).L)
 apart:∀ r s,r < 16 -> s < 16 -> r≠s -> ∀ k,blk (F r)=some k -> blk (F s)≠some k
def Off (F:Nat -> Sl) (q:Nat):Prop:=∀ r,r < 16 -> blk (F r)≠some q
theorem cY.nil (B:Nat) (W:World):cY B W (fun _=>sl0):=⟨fun _ _=>World.ownsRow_nil _ _ _ _,fun _ _ _ _ _ k h=>by cases h⟩
theorem cY.lt {B:Nat} {W:World} {F:Nat -> Sl} (O:cY B W F) {r k:Nat} (hr:r < 16) (h:blk (F r)=some k):B <= k/\k < W.heap.size:=(O.own r hr).lt k (by rw [ja];exact h)
theorem cY.off {B:Nat} {W:World} {F:Nat -> Sl} (O:cY B W F) (q:Nat) (h:q < B∨W.heap.size <= q):Off F q:=fun r hr e=>by have:=O.lt hr e;omega
theorem cY.kept {B:Nat} {W W':World} {F:Nat -> Sl} (O:cY B W F) (h:∀ q,q < W.heap.size -> ¬ Off F q -> W'.heap[q]? = W.heap[q]?):cY B W' F:=by
 refine ⟨fun r hr=>⟨(O.own r hr).1,?_⟩,O.apart⟩;rcases (O.own r hr).2 with h0 | ⟨g,cap2,cur,hv,dN,dy,rr⟩
 ·exact Or.inl h0
 ·refine Or.inr ⟨g,cap2,cur,hv,dN,(h g (Array.getElem?_eq_some_iff.1 dy).1 (fun ho=>ho r hr ?_)).trans dy,rr⟩;rw [<- ja,hv];rfl
theorem cY.below {B:Nat} {W W':World} {F:Nat -> Sl} (O:cY B W F) (hb:Below W.heap.size W W'):cY B W' F:=O.kept fun q hq _=>hb.block q hq
theorem cY.len {B:Nat} {W:World} {F:Nat -> Sl} (O:cY B W F) {r:Nat} (hr:r < 16):(F r).L.length=(F r).n:=by
 have:=(O.own r hr).1;rw [qt] at this;omega
theorem cY.src {B:Nat} {W:World} {F:Nat -> Sl} (O:cY B W F) (hB:B <= W.heap.size) {r:Nat} (hr:r < 16) (hl:(F r).n <= 8796093022207):aX W (F r).ao (F r).n (F r).cap (F r).L:=by
 have h:=O.own r hr;have e:=O.len hr;rw [<- e] at h;have:=(dI.src (B0:=0) (B:=B) (w:=W) ⟨h,Below.refl _ _,hB,Nat.zero_le _⟩ (by omega)).1;rw [e] at this;exact this
theorem cY.grow {B:Nat} {W:World} {F:Nat -> Sl} (O:cY B W F) (hB:B <= W.heap.size) (k:Nat) (hk:k < 16) (e:Rn) (ad:Addr) (h0:W.cell? (ad.add 0)=some (.int .i64 e.lo)) (h1:W.cell? (ad.add 1)=some (.int .i64 e.hi)) (ty:TypeId) (cF:(F k).n < 8796093022207) :
  ∃ g cap2 w2,(Builtin.append_ #[134,134] ty #[.slice (F k).ao (F k).n (F k).cap,.slice (some ad) 1 1]).run Tryz.prog W = .ok (.slice (some ⟨g,0,none⟩) ((F k).n+1) cap2) w2 /\
   cY B w2 (eN F k ⟨some ⟨g,0,none⟩,(F k).n+1,cap2,(F k).L++[e]⟩) /\
   (∀ q,q < W.heap.size -> Off F q -> w2.heap[q]? = W.heap[q]? /\ Off (eN F k ⟨some ⟨g,0,none⟩,(F k).n+1,cap2,(F k).L++[e]⟩) q)/\W.heap.size <= w2.heap.size/\(∀ n0 w,n0 <= B -> Below n0 w W -> Below n0 w w2):=by
 obtain ⟨i0,Gu,dg,dn,ee⟩:=info_parts rE
 obtain ⟨v',w2,dJ,aM,az,_,gZ⟩:=run_append_own_at (P:=Tryz.prog) W B 134 ty 182 i0 (.agg #[.int .i64 0,.int .i64 0]) 2 16 Tryz.underlying134 Gu dg dn ee rfl (by decide) (.slice (F k).ao (F k).n (F k).cap) (F k).n (rcs (F k).L) (O.own k hk) ad 1 1 (RC e).toList rfl
  (fun j u hj=>by
   match j,hj with
   | 0,hj=>cases hj;exact h0
   | 1,hj=>cases hj;exact h1
   | j+2,hj=>simp [RC] at hj)
  (fun u hu=>jX e u hu) (by unfold maxLen;omega) (by omega) hB
 rcases aM.2 with ⟨h0,fh⟩ | ⟨g,cap2,cur,hv,dN,dy,hnc,eV,hcsz,htake⟩
 ·omega
 ·subst hv
  rw [ja] at az gZ
  have pQ:blk (F k)=some g∨g=W.heap.size:=by
   rcases gZ with h | h
   ·left;rw [<- h];rfl
   ·right;simp [Value.ownBlock] at h;exact h
  have ni:∀ q,q < W.heap.size -> Off F q -> Off (eN F k ⟨some ⟨g,0,none⟩,(F k).n+1,cap2,(F k).L++[e]⟩) q:=by
   intro q hq ho r hr;by_cases iz:r=k
   ·subst iz;rw [xD];intro h;have hg:g=q:=Option.some.inj h;rcases pQ with h2 | h2
    ·exact ho r hr (by rw [h2,hg])
    ·omega
   ·rw [qE _ _ _ _ iz];exact ho r hr
  refine ⟨g,cap2,w2,dJ,⟨fun r hr=>?_,fun r s hr hs hrs q hq=>?_⟩,fun q hq ho=>⟨az.block q hq (fun e=>ho k hk e.symm),ni q hq ho⟩,az.size,fun n0 w hn hb=>hb.grown az (by omega) (fun q hq=>by have:=(O.lt hk hq).1;omega)⟩
  ·by_cases iz:r=k
   ·subst iz;rw [xD]
    show w2.ownsRow B _ 2 (.slice (some ⟨g,0,none⟩) ((F r).n+1) cap2) ((F r).n+1) (rcs ((F r).L++[e]))
    rw [xr,ki];exact aM
   ·rw [qE _ _ _ _ iz];refine ⟨(O.own r hr).1,?_⟩;rcases (O.own r hr).2 with h0 | ⟨g2,cap3,cur2,hv,hbg2,hgg2,rr⟩
    ·exact Or.inl h0
    ·have mS:blk (F r)=some g2:=by rw [<- ja,hv];rfl
     exact Or.inr ⟨g2,cap3,cur2,hv,hbg2,(az.block g2 (O.lt hr mS).2 (fun e=>O.apart r k hr hk iz g2 mS e.symm)).trans hgg2,rr⟩
  ·have key:∀ x,x < 16 -> x≠k -> blk (F x)≠some g:=by
    intro x hx hxk h;rcases pQ with h2 | h2
    ·exact O.apart x k hx hk hxk g h h2
    ·have:=(O.lt hx h).2;omega
   by_cases iz:r=k
   ·subst iz;rw [xD] at hq;rw [qE _ _ _ _ (fun h=>hrs h.symm)];have hg:g=q:=Option.some.inj hq;rw [<- hg];exact key s hs (fun h=>hrs h.symm)
   ·rw [qE _ _ _ _ iz] at hq;by_cases gk:s=k
    ·subst gk;rw [xD];intro h;have hg:g=q:=Option.some.inj h;rw [<- hg] at hq;exact key r hr iz hq
    ·rw [qE _ _ _ _ gk];exact O.apart r s hr hs hrs q hq
theorem cY.append {B:Nat} {W:World} {F:Nat -> Sl} (O:cY B W F) (hB:B <= W.heap.size) (k:Nat) (hk:k < 16) (e:Rn) (C:Array Value) (hC:C=RC e) (cF:(F k).n < 8796093022207)
  {ops:Array Oper} {rest:List Oper} {o:Oper} {a:Act} {Q:Exit -> Act -> World -> Prop} (hgd:o.guard=none) (s x:Operand) (ho:o.op = .call { callee:=.builtin .append,args:=#[s,x],argTypes:=#[134,134] })
  (ao:Option Addr) (n cap:Nat) (hf:(F k).ao=ao/\(F k).n=n/\(F k).cap=cap) (hs:a.eval s = .slice ao n cap) (hx:a.eval x = .slice (some ⟨W.heap.size,0,none⟩) 1 1)
  (hK:∀ (g cap2:Nat) (w2:World),cY B w2 (eN F k ⟨some ⟨g,0,none⟩,n+1,cap2,(F k).L++[e]⟩) -> (∀ q,q < W.heap.size -> Off F q -> w2.heap[q]? = W.heap[q]? /\ Off (eN F k ⟨some ⟨g,0,none⟩,n+1,cap2,(F k).L++[e]⟩) q) -> W.heap.size < w2.heap.size -> (∀ n0 w,n0 <= B -> Below n0 w W -> Below n0 w w2) -> wpList Tryz.prog ops Q rest (a.put o.dst (.slice (some ⟨g,0,none⟩) (n+1) cap2)) w2) :
  wpList Tryz.prog ops Q (o :: rest) a (W.alloc (.cells C 182)):=by
 subst hC;obtain ⟨rfl,rfl,rfl⟩:=hf;have hO:cY B (W.alloc (.cells (RC e) 182)) F:=O.below (ze W _)
 have c:∀ t,(W.alloc (.cells (RC e) 182)).cell? ((⟨W.heap.size,0,none⟩:Addr).add t)=(RC e)[t]?:=fun t=>by rw [Addr.add_lit,Nat.zero_add,World.cell?_alloc_new]
 obtain ⟨g,cap2,w2,dJ,h1,h2,h3,h4⟩:=hO.grow (by simp;omega) k hk e ⟨W.heap.size,0,none⟩ ((c 0).trans rfl) ((c 1).trans rfl) o.type cF;refine wpList_plain hgd fun K hK'=>?_;unfold Oper.wp execOp;simp only [ho,resolve,invoke,builtin,Sem.run_bind,Sem.run_pure,Result.andThen_ok,List.map_toArray,List.map_cons,List.map_nil,hs,hx,dJ];simp only [World.size_alloc] at h2 h3;refine hK' _ _ (hK g cap2 w2 h1 (fun q hq ho=>?_) (by omega) (fun n0 w hn hb=>h4 n0 w hn (hb.alloc (by omega) _)));have:=h2 q (by omega) ho;exact ⟨this.1.trans (Below.heap_alloc _ _ _ hq),this.2⟩
theorem cY.step {B:Nat} {W:World} {F:Nat -> Sl} (O:cY B W F) (hB:B <= W.heap.size) (k:Nat) (hk:k < 16) (e:Rn) (C:Array Value) (hC:C=RC e) (cF:(F k).n < 8796093022207)
  {ops:Array Oper} {o:Oper} {a:Act} {K:Act -> World -> Prop} {Q:Exit -> Act -> World -> Prop} {E:Prop} (hgd:o.guard=none) (s x:Operand) (ho:o.op = .call { callee:=.builtin .append,args:=#[s,x],argTypes:=#[134,134] })
  (ao:Option Addr) (n cap:Nat) (hf:(F k).ao=ao/\(F k).n=n/\(F k).cap=cap) (hs:a.eval s = .slice ao n cap) (g0:Nat) (hg0:W.heap.size=g0) (hx:a.eval x = .slice (some ⟨g0,0,none⟩) 1 1)
  (hK:∀ (g cap2:Nat) (w2:World),cY B w2 (eN F k ⟨some ⟨g,0,none⟩,n+1,cap2,(F k).L++[e]⟩) -> (∀ q,q < W.heap.size -> Off F q -> w2.heap[q]? = W.heap[q]? /\ Off (eN F k ⟨some ⟨g,0,none⟩,n+1,cap2,(F k).L++[e]⟩) q) -> W.heap.size < w2.heap.size -> (∀ n0 w,n0 <= B -> Below n0 w W -> Below n0 w w2) -> K (a.put o.dst (.slice (some ⟨g,0,none⟩) (n+1) cap2)) w2) :
  if Region.wanted o (yielded ops a.tmps)=true then Oper.wp Tryz.prog o a (W.alloc (.cells C 182)).drew K Q else E:=by
 have hw:Region.wanted o (yielded ops a.tmps)=true:=by simp [Region.wanted,hgd]
 rw [if_pos hw];subst hC hg0;obtain ⟨rfl,rfl,rfl⟩:=hf;have hO:cY B (W.alloc (.cells (RC e) 182)).drew F:=(O.below (ze W _)).below (zg _)
 have c:∀ t,(W.alloc (.cells (RC e) 182)).drew.cell? ((⟨W.heap.size,0,none⟩:Addr).add t)=(RC e)[t]?:=fun t=>by
  rw [Addr.add_lit,Nat.zero_add]
  show (W.alloc _).cell? _=_
  rw [World.cell?_alloc_new]
 have hz:(W.alloc (.cells (RC e) 182)).drew.heap.size=W.heap.size+1:=by show (W.alloc _).heap.size=_;simp
 obtain ⟨g,cap2,w2,dJ,h1,h2,h3,h4⟩:=hO.grow (by omega) k hk e ⟨W.heap.size,0,none⟩ ((c 0).trans rfl) ((c 1).trans rfl) o.type cF;unfold Oper.wp;simp [execOp,ho,resolve,invoke,builtin,hs,hx,dJ,Result.andThen];rw [hz] at h2 h3;refine hK g cap2 w2 h1 (fun q hq ho=>?_) (by omega) (fun n0 w hn hb=>h4 n0 w hn ((hb.alloc (by omega) _).trans ((zg _).mono (by simp;omega))));have:=h2 q (by omega) ho;exact ⟨this.1.trans (Below.heap_alloc _ _ _ hq),this.2⟩
end
section
open Go.RowKit

def aW (z:Int):List Rn:=if 0 < z then [⟨1,z⟩] else []
def ag (L:List Sn) (r:Nat):List Rn:=(L.filter (fun c=>decide (c.rep=(r:Int)))).map (fun c=>⟨c.lo,c.hi⟩)
def ae (p:Pst) (r:Nat):List Rn:=aW (V.at' p.vec r)++ag p.cloud r
def aw:List Pv -> Nat -> List Rn
 | [],_=>[]
 | p :: X,r=>ae p.P r++aw X r
def wt:List Pv -> Nat
 | []=>0
 | p :: X=>1+p.P.cloud.length+wt X
theorem bG (X Y:List Pv) (r:Nat):aw (X++Y) r=aw X r++aw Y r:=by
 induction X with
 | nil=>rfl
 | cons p X ih=>simp only [List.cons_append,aw,ih,List.append_assoc]
theorem qZ (p:Pv) (r:Nat):aw [p] r=ae p.P r:=by simp [aw]
theorem wC (X Y:List Pv):wt (X++Y)=wt X+wt Y:=by
 induction X with
 | nil=>simp [wt]
 | cons p X ih=>simp only [List.cons_append,wt,ih];omega
theorem wE (z:Int):(aW z).length <= 1:=by unfold aW;split <;> simp
theorem xJ (L:List Sn) (r:Nat):(ag L r).length <= L.length:=by unfold ag;rw [List.length_map];exact List.length_filter_le _ _
theorem jk (L:List Sn) (c:Sn) (r:Nat):ag (L++[c]) r=if c.rep=(r:Int) then ag L r++[⟨c.lo,c.hi⟩] else ag L r:=by
 unfold ag;by_cases h:c.rep=(r:Int)
 ·simp [h]
 ·simp [h]
theorem vx (X:List Pv) (r:Nat):(aw X r).length <= wt X:=by
 induction X with
 | nil=>simp [aw]
 | cons p X ih =>
  have h1:=wE (V.at' p.P.vec r);have h2:=xJ p.P.cloud r;simp only [aw,ae,wt,List.length_append];omega
theorem wH {X:List Pv} {k:Nat} {p:Pv} (hs:X[k]? = some p):X.take (k+1)=X.take k++[p]:=by
 rw [List.take_add_one,hs];rfl
theorem ziK {X:List Pv} {k:Nat} {p:Pv} (hs:X[k]? = some p):wt (X.take k)+(1+p.P.cloud.length) <= wt X:=by
 have h:=congrArg wt (List.take_append_drop (k+1) X);rw [wC,wH hs,wC] at h;simp only [wt] at h;omega
structure fO (w W:World) (F:Nat -> Sl) (G:Nat -> List Rn):Prop where
 z:cG W w.heap.size (fun _=>sl0)
 s:cG W (w.heap.size+1) F
 o:cY (w.heap.size+2) W F
 l:∀ r,r < 16 -> (F r).L=G r
 b:Below w.heap.size w W
 h:w.heap.size+2 <= W.heap.size
theorem fO.on {w W W':World} {F:Nat -> Sl} {G:Nat -> List Rn} (I:fO w W F G) (hb:Below W.heap.size W W'):fO w W' F G:=
 ⟨I.z.below hb,I.s.below hb,I.o.below hb,I.l,I.b.trans (hb.mono I.b.size),Nat.le_trans I.h hb.size⟩
theorem fO.congr {w W:World} {F:Nat -> Sl} {G G':Nat -> List Rn} (I:fO w W F G) (h:∀ r,r < 16 -> G r=G' r):fO w W F G':=
 ⟨I.z,I.s,I.o,fun r hr=>(I.l r hr).trans (h r hr),I.b,I.h⟩
theorem fO.len {w W:World} {F:Nat -> Sl} {G:Nat -> List Rn} (I:fO w W F G) {r:Nat} (hr:r < 16):(F r).n=(G r).length:=by rw [<- I.l r hr,I.o.len hr]
theorem fO.off {w W:World} {F:Nat -> Sl} {G:Nat -> List Rn} (I:fO w W F G) (q:Nat) (h:q < w.heap.size+2∨W.heap.size <= q):Off F q:=I.o.off q h
theorem fO.mid {w W w2:World} {F F':Nat -> Sl} {G:Nat -> List Rn} (I:fO w W F G) (h2:∀ q,q < W.heap.size -> Off F q -> w2.heap[q]? = W.heap[q]? /\ Off F' q):cG w2 (w.heap.size+1) F:=
 ((h2 _ (by have:=I.h;omega) (I.off _ (Or.inl (by omega)))).1).trans I.s
theorem fO.push {w W w2:World} {F:Nat -> Sl} {G:Nat -> List Rn} (I:fO w W F G) (k:Nat) (hk:k < 16) (e:Rn) (n cap2 g:Nat)
  (O2:cY (w.heap.size+2) w2 (eN F k ⟨some ⟨g,0,none⟩,n+1,cap2,(F k).L++[e]⟩)) (h2:∀ q,q < W.heap.size -> Off F q -> w2.heap[q]? = W.heap[q]? /\ Off (eN F k ⟨some ⟨g,0,none⟩,n+1,cap2,(F k).L++[e]⟩) q) (h3:W.heap.size < w2.heap.size) (h4:∀ n0 w0,n0 <= w.heap.size+2 -> Below n0 w0 W -> Below n0 w0 w2) (v:Value) (hv:v = .slice (some ⟨g,0,none⟩) (n+1) cap2) :
  fO w (w2.setCell ⟨w.heap.size+1,k,none⟩ v) (eN F k ⟨some ⟨g,0,none⟩,n+1,cap2,(F k).L++[e]⟩) (fun r=>if r=k then G r++[e] else G r):=by
 have hh:=I.h
 have other:∀ q,q≠w.heap.size+1 -> (w2.setCell ⟨w.heap.size+1,k,none⟩ v).heap[q]? = w2.heap[q]?:=fun q hq=>by
  simp [World.setCell,Array.getElem?_modify,show ¬ w.heap.size+1=q by omega]
 refine ⟨?_,(I.mid h2).set k _ v hv,O2.kept (fun q hq fw=>other q (fun e=>fw ?_)),fun r hr=>?_,?_,?_⟩
 ·exact (other _ (by omega)).trans (((h2 _ (by omega) (I.off _ (Or.inl (by omega)))).1).trans I.z)
 ·rw [e];exact O2.off _ (Or.inl (by omega))
 ·by_cases h:r=k
  ·subst h;rw [xD,if_pos rfl,<- I.l r hr]
  ·rw [qE _ _ _ _ h,if_neg h,<- I.l r hr]
 ·exact V.qg (h4 _ _ (by omega) I.b) (by simp)
 ·have:(w2.setCell ⟨w.heap.size+1,k,none⟩ v).heap.size=w2.heap.size:=by simp [World.setCell]
  omega
theorem kP {W w2:World} {F F':Nat -> Sl} {q B k:Nat} {v:Value} (h2:∀ q,q < W.heap.size -> Off F q -> w2.heap[q]? = W.heap[q]? /\ Off F' q) (hq:q < W.heap.size) (ho:Off F q) (ch:B≠q):(w2.setCell ⟨B,k,none⟩ v).heap[q]? = W.heap[q]? /\ Off F' q:=by
 refine ⟨?_,(h2 q hq ho).2⟩;rw [<- (h2 q hq ho).1];simp [World.setCell,Array.getElem?_modify,ch]
theorem zfK {A:Nat -> List Rn} {f:Nat -> Int} {j:Nat} {z:Int} (hz:f j=z) (h0:0 < z) (r:Nat):(if r=j then (A r++(if r < j then aW (f r) else []))++[⟨1,z⟩] else A r++(if r < j then aW (f r) else []))=A r++(if r < j+1 then aW (f r) else []):=by
 by_cases h:r=j
 ·subst h;simp [aW,hz,h0]
 ·by_cases h':r < j
  ·simp [h,h',show r < j+1 by omega]
  ·simp [h,h',show ¬ r < j+1 by omega]
theorem zfL {A:Nat -> List Rn} {f:Nat -> Int} {j:Nat} {z:Int} (hz:f j=z) (h0:¬ 0 < z) (r:Nat):A r++(if r < j then aW (f r) else [])=A r++(if r < j+1 then aW (f r) else []):=by
 by_cases h:r=j
 ·subst h;simp [aW,hz,h0]
 ·by_cases h':r < j
  ·simp [h',show r < j+1 by omega]
  ·simp [h',show ¬ r < j+1 by omega]
theorem yX {A:Nat -> List Rn} {L:List Sn} {c:Sn} {q:Nat} (hc:c.rep=(q:Int)) (r:Nat):(if r=q then (A r++ag L r)++[⟨c.lo,c.hi⟩] else A r++ag L r)=A r++ag (L++[c]) r:=by
 rw [jk];by_cases h:r=q
 ·subst h;simp [hc]
 ·have:¬ c.rep=(r:Int):=by rw [hc];omega
  simp [h,this]
theorem vF {A:Nat -> List Rn} {L:List Sn} {c:Sn} (hc:V.isR c.rep=false) (r:Nat) (hr:r < 16):A r++ag L r=A r++ag (L++[c]) r:=by
 rw [jk]
 have:¬ c.rep=(r:Int):=by
  intro e;rw [e] at hc;simp [V.isR] at hc;omega
 simp [this]
structure dw (lo:Nat) (W:World) (F:Nat -> Sl) (G:Nat -> List Rn):Prop where
 src:∀ r,r < 16 -> aX W (F r).ao (F r).n (F r).cap (F r).L
 eq:∀ r,r < 16 -> (F r).L=G r
 lo:∀ r,r < 16 -> ∀ ad,(F r).ao=some ad -> lo <= ad.block
 hi:∀ r,r < 16 -> ∀ ad,(F r).ao=some ad -> ad.block < W.heap.size
theorem jw {w w':World} {ao:Option Addr} {n c:Nat} {L:List Rn} (h:aX w ao n c L) (hk:∀ ad,ao=some ad -> w'.heap[ad.block]? = w.heap[ad.block]?):aX w' ao n c L:=by
 refine ⟨h.len,h.nil,fun ad ha t ht=>?_,h.cap,h.room,h.big⟩;have A:=h.cell ad ha t ht
 have e:∀ m,w'.cell? (ad.add m)=w.cell? (ad.add m):=fun m=>by unfold World.cell?;rw [zs,hk ad ha]
 exact ⟨by rw [e];exact A.c0,by have:=A.c1;rw [qC] at this ⊢;rw [e];exact this⟩
theorem dw.below {lo:Nat} {W W':World} {F:Nat -> Sl} {G:Nat -> List Rn} (h:dw lo W F G) (hb:Below W.heap.size W W'):dw lo W' F G:=
 ⟨fun r hr=>(h.src r hr).below hb,h.eq,h.lo,fun r hr ad e=>Nat.lt_of_lt_of_le (h.hi r hr ad e) hb.size⟩
def dY (F:Nat -> Sl) (g:Nat):Prop:=∀ r,r < 16 -> ∀ ad,(F r).ao=some ad -> ad.block≠g
theorem dw.off {lo:Nat} {W:World} {F:Nat -> Sl} {G:Nat -> List Rn} (h:dw lo W F G) {g:Nat} (hg:dY F g) (cs:Array Value):dw lo (W.setRow g cs) F G:=
 ⟨fun r hr=>jw (h.src r hr) (fun ad e=>setRow_other _ _ _ _ (hg r hr ad e)),h.eq,h.lo,fun r hr ad e=>by have:=h.hi r hr ad e;simpa [World.setRow] using this⟩
def BC (w w':World) (e:Ending) (G:Nat -> List Rn):Prop:=∃ F,e = .returned (SAv F)/\dw w.heap.size w' F G/\Below w.heap.size w w'
end
section
open Go.RowKit

def BIf (x:Bool) (P:Prop):Prop:=x=true↔P
theorem BIf.out {x:Bool} {P:Prop} (h:BIf x P):x=true↔P:=h
theorem BIf.yes {P:Prop} (h:P):BIf true P:=⟨fun _=>h,fun _=>rfl⟩
theorem BIf.no {P:Prop} (h:¬ P):BIf false P:=⟨(fun e=>by cases e),fun e=>absurd e h⟩
def iB (w w':World) (e:Ending) (P:Prop):Prop:=∃ b,e = .returned (.bool b)/\BIf b P/\Below w.heap.size w w'
def cB (P:Pst) (d:Rn):Prop:=V.isR d.lo=true/\mem (ae P d.lo.toNat) d.hi
theorem jd (P:Pst) (r:Nat) (hr:r < 16) (n:Int):mem (ae P r) n↔1 <= n/\n <= 1000000000/\(n <= P.vec.getD r 0∨∃ c,c∈P.cloud/\c.rep=(r:Int)/\c.lo <= n/\n <= c.hi):=by
 unfold ae;rw [mem_append]
 have hv:mem (aW (V.at' P.vec r)) n↔1 <= n/\n <= 1000000000/\n <= P.vec.getD r 0:=by
  unfold aW V.at' V.eI;rw [if_pos hr];generalize P.vec.getD r 0=z;by_cases h1:z < 0
  ·simp only [if_pos h1];rw [if_neg (by omega)];exact ⟨fun h=>absurd h (qV n),fun h=>by omega⟩
  ·by_cases h2:1000000000 < z
   ·simp only [if_neg h1,if_pos h2];rw [if_pos (by omega),qu];exact ⟨fun h=>by simp only at h;omega,fun h=>by simp only;omega⟩
   ·simp only [if_neg h1,if_neg h2];by_cases h3:0 < z
    ·rw [if_pos h3,qu];exact ⟨fun h=>by simp only at h;omega,fun h=>by simp only;omega⟩
    ·rw [if_neg h3];exact ⟨fun h=>absurd h (qV n),fun h=>by omega⟩
 have hc:mem (ag P.cloud r) n↔1 <= n/\n <= 1000000000/\∃ c,c∈P.cloud/\c.rep=(r:Int)/\c.lo <= n/\n <= c.hi:=by
  unfold ag mem;refine and_congr_right fun _=>and_congr_right fun _=>?_;constructor
  ·rintro ⟨x,hx,e⟩;obtain ⟨c,hc,rfl⟩:=List.mem_map.1 hx;obtain ⟨h1,h2⟩:=List.mem_filter.1 hc;exact ⟨c,h1,of_decide_eq_true h2,e⟩
  ·rintro ⟨c,hc,h1,h2⟩;exact ⟨⟨c.lo,c.hi⟩,List.mem_map.2 ⟨c,List.mem_filter.2 ⟨hc,decide_eq_true h1⟩,rfl⟩,h2⟩
 rw [hv,hc];constructor
 ·rintro (⟨h1,h2,h3⟩ | ⟨h1,h2,h3⟩)
  ·exact ⟨h1,h2,Or.inl h3⟩
  ·exact ⟨h1,h2,Or.inr h3⟩
 ·rintro ⟨h1,h2,h3 | h3⟩
  ·exact Or.inl ⟨h1,h2,h3⟩
  ·exact Or.inr ⟨h1,h2,h3⟩
theorem xB (P:Pst) (d:Rn):cB P d↔0 <= d.lo/\d.lo < 16/\1 <= d.hi/\d.hi <= 1000000000/\(d.hi <= P.vec.getD d.lo.toNat 0∨∃ c,c∈P.cloud/\c.rep=d.lo/\c.lo <= d.hi/\d.hi <= c.hi):=by
 unfold cB;by_cases h:0 <= d.lo/\d.lo < 16
 ·have e:V.isR d.lo=true:=by simp [V.isR];exact h
  have e2:((d.lo.toNat:Nat):Int)=d.lo:=by omega
  rw [jd P _ (by omega),e2];simp [e,h.1,h.2]
 ·have e:¬ V.isR d.lo=true:=by simp [V.isR];omega
  exact ⟨fun g=>absurd g.1 e,fun g=>absurd ⟨g.1,g.2.1⟩ h⟩
def Jd (d:Rn) (c:Sn):Prop:=c.rep=d.lo/\c.lo <= d.hi/\d.hi <= c.hi
end
section
open Go.RowKit

def fX (p:Pst) (r:Nat):List Rn:=(if r < p.vec.length then [⟨1,p.vec.getD r 0⟩] else [])++ag p.cloud r
def ct:List Pv -> Nat -> List Rn
 | [],_=>[]
 | p :: X,r=>fX p.P r++ct X r
theorem zaX (X Y:List Pv) (r:Nat):ct (X++Y) r=ct X r++ct Y r:=by
 induction X with
 | nil=>rfl
 | cons p X ih=>simp [ct,ih]
theorem zbU (p:Pst) (r:Nat) (hr:r < 16) (n:Int):mem (fX p r) n↔mem (ae p r) n:=by
 rw [jd p r hr n];unfold fX;rw [mem_append]
 have hc:mem (ag p.cloud r) n↔1 <= n/\n <= 1000000000/\∃ c,c∈p.cloud/\c.rep=(r:Int)/\c.lo <= n/\n <= c.hi:=by
  unfold ag mem;refine and_congr_right fun _=>and_congr_right fun _=>?_;constructor
  ·rintro ⟨x,hx,e⟩;obtain ⟨c,hc,rfl⟩:=List.mem_map.1 hx;obtain ⟨h1,h2⟩:=List.mem_filter.1 hc;exact ⟨c,h1,of_decide_eq_true h2,e⟩
  ·rintro ⟨c,hc,h1,h2⟩;exact ⟨⟨c.lo,c.hi⟩,List.mem_map.2 ⟨c,List.mem_filter.2 ⟨hc,decide_eq_true h1⟩,rfl⟩,h2⟩
 rw [hc];by_cases h:r < p.vec.length
 ·rw [if_pos h,qu];simp only;constructor
  ·rintro (g | g)
   ·exact ⟨g.1,g.2.1,Or.inl g.2.2.2⟩
   ·exact ⟨g.1,g.2.1,Or.inr g.2.2⟩
  ·rintro ⟨g1,g2,g | g⟩
   ·exact Or.inl ⟨g1,g2,g1,g⟩
   ·exact Or.inr ⟨g1,g2,g⟩
 ·rw [if_neg h]
  have e:p.vec.getD r 0=0:=by rw [List.getD,List.getElem?_eq_none (by omega)];rfl
  constructor
  ·rintro (g | g)
   ·exact absurd g (qV n)
   ·exact ⟨g.1,g.2.1,Or.inr g.2.2⟩
  ·rintro ⟨g1,g2,g | g⟩
   ·omega
   ·exact Or.inr ⟨g1,g2,g⟩
theorem zaW:∀ (X:List Pv) (r:Nat),r < 16 -> ∀ n,mem (ct X r) n↔mem (aw X r) n
 | [],_,_,_=>Iff.rfl
 | p :: X,r,hr,n=>by
  show mem (fX p.P r++ct X r) n↔mem (ae p.P r++aw X r) n
  rw [mem_append,mem_append,zbU p.P r hr,zaW X r hr]
theorem zfD (G:List Rn):cd (G.map (fun r=>r.lo)) (G.map (fun r=>r.hi))=G:=by
 unfold cd
 induction G with
 | nil=>rfl
 | cons a t ih=>simp [ih]
structure MeI (w W:World) (F:Nat -> Si) (G H:Nat -> List Rn):Prop where
 z:aS W w.heap.size 141 (fun _=>si0)
 a:aS W (w.heap.size+1) 139 F
 b:aS W (w.heap.size+1+1) 139 (fun r=>F (16+r))
 o:dE (w.heap.size+3) W F
 l:∀ r,r < 16 -> (F r).L=(G r).map (fun x=>x.lo)
 m:∀ r,r < 16 -> (F (16+r)).L=(H r).map (fun x=>x.hi)
 bl:Below w.heap.size w W
 h:w.heap.size+3 <= W.heap.size
theorem MeI.on {w W W':World} {F:Nat -> Si} {G H:Nat -> List Rn} (I:MeI w W F G H) (hb:Below W.heap.size W W'):MeI w W' F G H:=
 ⟨I.z.below hb,I.a.below hb,I.b.below hb,I.o.below hb,I.l,I.m,I.bl.trans (hb.mono I.bl.size),Nat.le_trans I.h hb.size⟩
theorem MeI.congr {w W:World} {F:Nat -> Si} {G H G' H':Nat -> List Rn} (I:MeI w W F G H) (h1:∀ r,r < 16 -> G r=G' r) (h2:∀ r,r < 16 -> H r=H' r):MeI w W F G' H':=
 ⟨I.z,I.a,I.b,I.o,fun r hr=>by rw [<- h1 r hr];exact I.l r hr,fun r hr=>by rw [<- h2 r hr];exact I.m r hr,I.bl,I.h⟩
theorem MeI.off {w W:World} {F:Nat -> Si} {G H:Nat -> List Rn} (I:MeI w W F G H) (q:Nat) (h:q < w.heap.size+3∨W.heap.size <= q):eM F q:=I.o.off q h
theorem zy {W:World} {g t q:Nat} {v:Value} (h:q≠g):(W.setCell ⟨g,t,none⟩ v).heap[q]? = W.heap[q]?:=by
 simp [World.setCell,Array.getElem?_modify,show ¬ g=q by omega]
section
variable {w W w2 : World} {F : Nat -> Si} {G H : Nat -> List Rn} {k n cap2 g : Nat} {e : Int} {v : Value}
theorem MeI.mid (I:MeI w W F G H) {F':Nat -> Si} (h2:∀ q,q < W.heap.size -> eM F q -> w2.heap[q]? = W.heap[q]? /\ eM F' q):aS w2 (w.heap.size+1) 139 F/\aS w2 (w.heap.size+1+1) 139 (fun r=>F (16+r)):=by
 have:=I.h;exact ⟨((h2 _ (by omega) (I.off _ (Or.inl (by omega)))).1).trans I.a,((h2 _ (by omega) (I.off _ (Or.inl (by omega)))).1).trans I.b⟩
theorem MeI.pushLo (I:MeI w W F G H) (hk:k < 16) (x:Rn) (O2:dE (w.heap.size+3) w2 (eR F k ⟨some ⟨g,0,none⟩,n+1,cap2,(F k).L++[x.lo]⟩)) (h2:∀ q,q < W.heap.size -> eM F q -> w2.heap[q]? = W.heap[q]? /\ eM (eR F k ⟨some ⟨g,0,none⟩,n+1,cap2,(F k).L++[x.lo]⟩) q) (h3:W.heap.size < w2.heap.size) (h4:∀ n0 w0,n0 <= w.heap.size+3 -> Below n0 w0 W -> Below n0 w0 w2) (hv:v = .slice (some ⟨g,0,none⟩) (n+1) cap2) :
  MeI w (w2.setCell ⟨w.heap.size+1,k,none⟩ v) (eR F k ⟨some ⟨g,0,none⟩,n+1,cap2,(F k).L++[x.lo]⟩) (fun r=>if r=k then G r++[x] else G r) H:=by
 have hh:=I.h;obtain ⟨m1,m2⟩:=I.mid h2;refine ⟨?_,m1.set k _ v hv,?_,O2.kept (fun q hq fw=>zy (fun e=>fw ?_)),fun r hr=>?_,fun r hr=>?_,V.qg (h4 _ _ (by omega) I.bl) (by simp),?_⟩
 ·exact (zy (by omega)).trans (((h2 _ (by omega) (I.off _ (Or.inl (by omega)))).1).trans I.z)
 ·refine (m2.off (by omega)).congr (fun r hr=>?_);rw [qh _ _ _ _ (by omega)]
 ·rw [e];exact O2.off _ (Or.inl (by omega))
 ·by_cases h:r=k
  ·subst h;rw [xp,if_pos rfl,List.map_append,<- I.l r hr];rfl
  ·rw [qh _ _ _ _ h,if_neg h,<- I.l r hr]
 ·rw [qh _ _ _ _ (by omega)];exact I.m r hr
 ·have:(w2.setCell ⟨w.heap.size+1,k,none⟩ v).heap.size=w2.heap.size:=by simp [World.setCell]
  omega
theorem MeI.pushHi (I:MeI w W F G H) (hk:k < 16) (x:Rn) (O2:dE (w.heap.size+3) w2 (eR F (16+k) ⟨some ⟨g,0,none⟩,n+1,cap2,(F (16+k)).L++[x.hi]⟩)) (h2:∀ q,q < W.heap.size -> eM F q -> w2.heap[q]? = W.heap[q]? /\ eM (eR F (16+k) ⟨some ⟨g,0,none⟩,n+1,cap2,(F (16+k)).L++[x.hi]⟩) q) (h3:W.heap.size < w2.heap.size) (h4:∀ n0 w0,n0 <= w.heap.size+3 -> Below n0 w0 W -> Below n0 w0 w2) (hv:v = .slice (some ⟨g,0,none⟩) (n+1) cap2) :
  MeI w (w2.setCell ⟨w.heap.size+1+1,k,none⟩ v) (eR F (16+k) ⟨some ⟨g,0,none⟩,n+1,cap2,(F (16+k)).L++[x.hi]⟩) G (fun r=>if r=k then H r++[x] else H r):=by
 have hh:=I.h;obtain ⟨m1,m2⟩:=I.mid h2;refine ⟨?_,?_,(m2.set k ⟨some ⟨g,0,none⟩,n+1,cap2,(F (16+k)).L++[x.hi]⟩ v hv).congr (fun r hr=>?_),O2.kept (fun q hq fw=>zy (fun e=>fw ?_)),fun r hr=>?_,fun r hr=>?_,V.qg (h4 _ _ (by omega) I.bl) (by simp;omega),?_⟩
 ·exact (zy (by omega)).trans (((h2 _ (by omega) (I.off _ (Or.inl (by omega)))).1).trans I.z)
 ·refine (m1.off (by omega)).congr (fun r hr=>?_);rw [qh _ _ _ _ (by omega)]
 ·by_cases h:r=k
  ·subst h;rw [xp,xp]
  ·rw [qh _ _ _ _ h,qh _ _ _ _ (by omega)]
 ·rw [e];exact O2.off _ (Or.inl (by omega))
 ·rw [qh _ _ _ _ (by omega)];exact I.l r hr
 ·by_cases h:r=k
  ·subst h;rw [xp,if_pos rfl,List.map_append,<- I.m r hr];rfl
  ·rw [qh _ _ _ _ (by omega),if_neg h,<- I.m r hr]
 ·have:(w2.setCell ⟨w.heap.size+1+1,k,none⟩ v).heap.size=w2.heap.size:=by simp [World.setCell]
  omega
end
theorem MeI.lenLo {w W:World} {F:Nat -> Si} {G H:Nat -> List Rn} (I:MeI w W F G H) {r:Nat} (hr:r < 16):(F r).n=(G r).length:=by
 have:=I.o.len (r:=r) (by omega);rw [I.l r hr,List.length_map] at this;exact this.symm
theorem MeI.lenHi {w W:World} {F:Nat -> Si} {G H:Nat -> List Rn} (I:MeI w W F G H) {r:Nat} (hr:r < 16):(F (16+r)).n=(H r).length:=by
 have:=I.o.len (r:=16+r) (by omega);rw [I.m r hr,List.length_map] at this;exact this.symm
end
section
open Go.RowKit

theorem dE.src {B:Nat} {W:World} {F:Nat -> Si} (O:dE B W F) (hB:B <= W.heap.size) {r:Nat} (hr:r < 32):V.Src W (F r).ao (F r).n (F r).cap (F r).L:=by
 have hl:=O.len hr;have h:dz 0 B W W (F r).ao (F r).cap (F r).L:=⟨by rw [hl];exact O.own r hr,Below.refl _ _,hB,Nat.zero_le _⟩;have:=h.src.1;rw [hl] at this;exact this
structure MeJ (w W:World) (gs:Nat) (F:Nat -> Si) (G:Nat -> List Rn) (T:Nat -> Si) (N:Nat -> List Rn) (j:Nat):Prop where
 i:MeI w W F G G
 s:aS W gs 141 T
 g:w.heap.size+3 <= gs
 off:eM F gs
 t:∀ r,r < j -> V.Src W (T r).ao (T r).n (T r).cap (tn (N r))/\(∀ ad,(T r).ao=some ad -> gs < ad.block)/\aT (G r) (N r)
theorem MeJ.start {w W:World} {F:Nat -> Si} {G:Nat -> List Rn} (I:MeI w W F G G):MeJ w (W.alloc (.cells (JA fun _=>si0) 141)) W.heap.size F G (fun _=>si0) (fun _=>[]) 0:=
 ⟨I.on (ze _ _),xA _ _ _,I.h,I.off _ (Or.inr (Nat.le_refl _)),fun r h=>absurd h (by omega)⟩
theorem MeJ.on {w W W':World} {gs:Nat} {F:Nat -> Si} {G:Nat -> List Rn} {T:Nat -> Si} {N:Nat -> List Rn} {j:Nat} (I:MeJ w W gs F G T N j) (hb:Below W.heap.size W W'):MeJ w W' gs F G T N j:=
 ⟨I.i.on hb,I.s.below hb,I.g,I.off,fun r hr=>⟨(I.t r hr).1.below hb,(I.t r hr).2⟩⟩
theorem MeJ.push {w W W':World} {gs:Nat} {F:Nat -> Si} {G:Nat -> List Rn} {T:Nat -> Si} {N:Nat -> List Rn} {j:Nat} (I:MeJ w W gs F G T N j) (hb:Below W.heap.size W W') {ao:Option Addr} {n c:Nat} {X:List Rn} (S:V.Src W' ao n c (tn X)) (hf:∀ ad,ao=some ad -> W.heap.size <= ad.block) (hN:aT (G j) X) :
  MeJ w (W'.setCell ⟨gs,j,none⟩ (.slice ao n c)) gs F G (eR T j ⟨ao,n,c,[]⟩) (fun r=>if r=j then X else N r) (j+1):=by
 have hl:=I.s.lt;have hg:=I.g;have J:=I.i.on hb;have hs:∀ {q:Nat},q≠gs -> (W'.setCell ⟨gs,j,none⟩ (.slice ao n c)).heap[q]? = W'.heap[q]?:=fun h=>zy h;refine ⟨⟨(hs (by omega)).trans J.z,(hs (by omega)).trans J.a,(hs (by omega)).trans J.b,J.o.kept (fun q _ ho=>hs (fun e=>ho (by rw [e];exact I.off))),J.l,J.m,V.qg J.bl (by simp;omega),by simpa [World.setCell] using J.h⟩,(I.s.below hb).set j ⟨ao,n,c,[]⟩ _ rfl,hg,I.off,fun r hr=>?_⟩;by_cases h:r=j
 ·subst h;rw [xp,if_pos rfl];exact ⟨bv S (fun ad h=>hs (by have:=hf ad h;omega)),fun ad h=>by have:=hf ad h;omega,hN⟩
 ·rw [qh _ _ _ _ h,if_neg h];obtain ⟨h1,h2,h3⟩:=I.t r (by omega);exact ⟨bv (h1.below hb) (fun ad h=>hs (by have:=h2 ad h;omega)),h2,h3⟩
end
end Go.Proofs.YtjffpimfngdggaaGreat
