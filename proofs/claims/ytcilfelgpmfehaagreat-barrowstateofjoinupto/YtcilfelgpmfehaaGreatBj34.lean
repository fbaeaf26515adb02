/- YDe YDf YDk SXa PVw TVf SXt YDh YDp YDg YDq YDr YEa IQr SXo SXp SXr SYb -/
import Derived.Test.YtcilfelgpmfehaaGreatBj33
import Derived.ProofKit
import Derived.OpenShut
import Derived.Lib.SmallJoins
import Derived.HandedShaped
import Derived.SizedLaws
import Derived.ChangeMaps5
import Derived.JoinedCond
import Derived.Deep.CutRange
set_option maxRecDepth 100000
set_option maxHeartbeats 6400000
namespace Go.Proofs.YtcilfelgpmfehaaGreat
section
open Go.RowKit
def tD (L:List K.En) (P:Pst) (d:Dg) (e:K.En):Prop:=(inB P e=true/\¬ ∃ x∈L,am x=am e)/\¬ (inB d.h.P e=true/\¬ inB d.l.P e=true)
def LsD (s:Fc) (d:Dg) (l:Fc):Prop:=l.es=s.es.filter (pkB d.h.P false)/\af l.p.P/\(∀ e,inB l.p.P e=true↔(okD (am e)=true/\∃ x∈l.es,am x=am e)∨tD s.es s.p.P d e)/\gR s.rs s.p.P l.rs
def LsR (s:Fc) (d:Dg) (l:Fc) (er:Int):Prop:=(¬ (aJ s/\nt d.h.P d.l.P)/\er=1/\l=fz0)∨((aJ s/\nt d.h.P d.l.P)/\er=0/\LsD s d l)
def LsE (N:Nat) (w w':World) (x:Ending) (s:Fc) (d:Dg):Prop:=∃ l er,x = .returned (.tuple #[FaV (mkF l),.int .i64 er])/\SwB N w' l/\Below w.heap.size w w'/\LsR s d l er
attribute [local go_sem ↓] zl zk jl jb zK zJ xm x4
attribute [local go_sem] zf zh zw q9 xz zj zr zF qV xQ qG
end
section
open Go.RowKit
def LfD (f:Fc) (d:Dg) (l:Fc):Prop:=l.es=(dG f).filter (pkB d.h.P false)/\∃ H,dg f H/\af l.p.P/\(∀ e,inB l.p.P e=true↔tD (dG f) H d e)/\gR f.rs H l.rs
def LfR (f:Fc) (d:Dg) (l:Fc) (er:Int):Prop:=(¬ (aB f/\nt d.h.P d.l.P)/\er=1/\l=fz0)∨((aB f/\nt d.h.P d.l.P)/\er=0/\LfD f d l)
def LfE (N:Nat) (w w':World) (x:Ending) (f:Fc) (d:Dg):Prop:=∃ l er,x = .returned (.tuple #[FaV (mkF l),.int .i64 er])/\SwB N w' l/\Below w.heap.size w w'/\LfR f d l er
attribute [local go_sem ↓] zl zk jl jb zM zL jC
attribute [local go_sem] zf zh zw q9 xz zj zr zF kc vL
end
section
open Go.RowKit
def dk1:K.En:=⟨0,1,⟨#[65]⟩,5⟩
def dk2:K.En:=⟨0,2,⟨#[65]⟩,6⟩
def dkP:Pst:=⟨[1,1],[]⟩
def dkH:Pst:=⟨[2,1],[]⟩
def dkL:Pst:=⟨[],[⟨0,2,2⟩]⟩
def dkC:Array Value:=#[.int .i64 0,.int .i64 1,.string ⟨#[65]⟩,.int .i64 5,.int .i64 0,.int .i64 2,.string ⟨#[65]⟩,.int .i64 6]
def DZ (a:Array (Nat × Value)):Sem Value:=Instr.buildSlice 22 2 a
theorem zgi (a:Array (Nat × Value)):Instr.buildSlice 22 2 a=DZ a:=rfl
theorem zed (w:World):(DZ #[(0,.agg #[.int .i64 0,.int .i64 1,.string ⟨#[65]⟩,.int .i64 5]),(1,.agg #[.int .i64 0,.int .i64 2,.string ⟨#[65]⟩,.int .i64 6])]).run Tryz.prog w = .ok (.slice (some ⟨w.heap.size,0,none⟩) 2 2) (w.alloc (.cells dkC 66)):=by kernel_rfl
theorem zb0 (a v:Option Addr) (n c m d:Nat) (w:World):(mR #[(0,.slice a n c),(1,.agg #[.slice v m d,.slice none 0 0])]).run Tryz.prog w = .ok (.agg #[.slice a n c,.slice v m d,.slice none 0 0,.slice none 0 0]) w:=by kernel_rfl
theorem Aa (w:World) (m:Fc) (g:Nat) (hg:w.heap.size=g):∃ w':World,(mJ (.pointer (some ⟨g,0,none⟩)) (.agg (FaC (mkF m)))).run Tryz.prog (w.alloc (.cells (FaC (mkF fz0)) 29)) = .ok () w'/\aD w' g (mkF m)/\Below w.heap.size w w'/\w'.heap.size=w.heap.size+1:=by
 subst hg;exact ⟨_,xp (zP w _),(zP w _).setRow,zg (ze w _) (Nat.le_refl _),by simp [World.setRow]⟩
attribute [local go_sem ↓] zl zk zM zL jl jb jC zgi zdN kJ zdO
attribute [local go_sem] zf zh zj zr zF q9 xz zb0 zed zbh zbi vK
end
section
open Go.RowKit
def sx1:K.En:=⟨0,1,⟨#[65]⟩,5⟩
def sxP:Pst:=⟨[1],[]⟩
def A1D (s:Fc):Prop:=s.es=[sx1]/\s.an=1/\s.p.P=sxP/\s.rs=[]/\s.rn=0/\s.rc=0
def sxC:Array Value:=#[.int .i64 0,.int .i64 1,.string ⟨#[65]⟩,.int .i64 5]
def DX (a:Array (Nat × Value)):Sem Value:=Instr.buildSlice 22 1 a
theorem zge (a:Array (Nat × Value)):Instr.buildSlice 22 1 a=DX a:=rfl
theorem zeb (w:World):(DX #[(0,.agg #[.int .i64 0,.int .i64 1,.string ⟨#[65]⟩,.int .i64 5])]).run Tryz.prog w = .ok (.slice (some ⟨w.heap.size,0,none⟩) 1 1) (w.alloc (.cells sxC 66)):=by kernel_rfl
theorem zbV (a v:Option Addr) (n c m d:Nat) (w:World):(oj #[(0,.slice a n c),(1,.agg #[.slice v m d,.slice none 0 0])]).run Tryz.prog w = .ok (.agg #[.slice a n c,.slice v m d,.slice none 0 0,.slice none 0 0]) w:=by kernel_rfl
theorem fP (w:World) (m:Fc) (g:Nat) (hg:w.heap.size=g):∃ w':World,(pG (.pointer (some ⟨g,0,none⟩)) (.agg (FaC (mkF m)))).run Tryz.prog (w.alloc (.cells (FaC (mkF fz0)) 38)) = .ok () w'/\aI w' g (mkF m)/\Below w.heap.size w w'/\w'.heap.size=w.heap.size+1:=by
 subst hg;exact ⟨_,jI (qD w _),(qD w _).setRow,zg (ze w _) (Nat.le_refl _),by simp [World.setRow]⟩
attribute [local go_sem ↓] zl zk zK zJ xm zge zdN kJ zdO
attribute [local go_sem] zf zh zj zr zF zbV zeb zbh zbi vK
end
section
open Go.ChangeShapes Go.WideShapes Go.ChangeAt Go.RowKit Go.Joins

theorem own:ownKnob Tryz.prog.godebug=none:=by kernel_rfl
theorem np:laidOutB Tryz.prog=true:=by kernel_rfl
theorem pw:Tryz.prog.cellsOf 69=3:=by kernel_rfl
theorem px:Tryz.prog.cellsOf 3=1:=by kernel_rfl
theorem mG:Tryz.prog.cellsOf 26=2:=by kernel_rfl
theorem Ai:Tryz.prog.cellsOf 23=1:=by kernel_rfl
theorem uX:Tryz.prog.cellsOf 24=1:=by kernel_rfl
theorem vw {H:Type} (d:DataW H):1 <= Rows.uptoBulk d:=by
 cases d with
 | lit l=>cases l <;> simp only [Rows.uptoBulk] <;> omega
 | _=>simp only [Rows.uptoBulk] <;> omega
theorem vx {H:Type}:∀ (l:List (DataW H)),l.length <= Rows.uptoBulkAll l
 | []=>by simp
 | d :: l=>by have:=vx l;have:=vw d;simp only [Rows.uptoBulkAll,List.length_cons];omega
theorem iZ {α : Type} {l:List α} (h:l.length=2):∃ a b,l=[a,b]:=by
 match l,h with
 | [a,b],_=>exact ⟨a,b,rfl⟩
theorem iW {α : Type} {l:List α} (h:l.length=3):∃ a b c,l=[a,b,c]:=by
 match l,h with
 | [a,b,c],_=>exact ⟨a,b,c,rfl⟩
theorem zcX {H:Type} {enc:TypeId × Value -> H} {w:World} {base:Nat} {spare:Nat -> Bool} {held:Bool} {fuel:Nat} {cs:List Value} {x:DataW H × List MemPlace}
  (h:DataW.trod enc Tryz.prog w base spare held fuel 69 cs=some x):∃ e:Sn,cs=(SC e).toList:=by
 obtain ⟨xs,m,_,hx,fD,oJ,hf⟩:=DataW.trod_struct Tryz.underlying69 h;obtain ⟨v0,v1,v2,rfl⟩:=iW (fD.trans pw);obtain ⟨y0,y1,y2,rfl⟩:=iW oJ;have t0:=hf 0 _ rfl;have t1:=hf 1 _ rfl;have t2:=hf 2 _ rfl;simp [px] at t0 t1 t2;obtain ⟨r,e0,-,_⟩:=DataW.trod_int Tryz.underlying3 t0;obtain ⟨n,e1,-,_⟩:=DataW.trod_int Tryz.underlying3 t1;obtain ⟨m',e2,-,_⟩:=DataW.trod_int Tryz.underlying3 t2;simp only [List.cons.injEq,and_true] at e0 e1 e2;subst e0 e1 e2;exact ⟨⟨r,n,m'⟩,rfl⟩
theorem DV {H:Type} {enc:TypeId × Value -> H} {W:World} {fuel:Nat} {v:Value} {x:DataW H × List MemPlace}
  (h:DataW.trod enc Tryz.prog W 0 (fun _=>true) true fuel 23 [v]=some x) (hw:Rows.uptoBulk x.1 <= 1048576):∃ (ao:Option Addr) (n cap:Nat) (Z:List Int),v = .slice ao n cap/\V.Src W ao n cap Z/\n <= 1048576:=by
 rcases DataW.trod_slice Tryz.underlying23 h with h0 | ⟨a,len,cap,elems,rest,n,_,gw,hx,hb,hl,hm,cP,hel,ov,hns⟩
 ·have e:v = .slice none 0 0:=by simpa using h0.1
  exact ⟨none,0,0,[],e,⟨rfl,fun _=>⟨rfl,rfl⟩,fun ad h=>(by cases h)⟩,Nat.zero_le _⟩
 ·subst hx
  have e:v = .slice (some a) len cap:=by simpa using gw
  simp only [Rows.uptoBulk] at hw;have h1:=vx (elems.map (·.1));simp only [List.length_map] at h1
  have key:∀ i,i < len -> ∃ z:Int,W.cell? (a.add i)=some (.int .i64 z):=by
   intro i hi;have he:=hel i hi;obtain ⟨y,hy⟩:∃ y,elems[i]? = some y:=⟨_,List.getElem?_eq_getElem (by omega)⟩;rw [hy,px,Option.bind_eq_some_iff] at he;obtain ⟨cs',gw,uO⟩:=he;obtain ⟨NF,-,fV⟩:=World.cells?_some gw;obtain ⟨z,rfl,-,_⟩:=DataW.trod_int Tryz.underlying3 uO;have g0:=fV 0 (by omega);rw [add_zero,Nat.mul_one] at g0;exact ⟨z,g0⟩
  refine ⟨some a,len,cap,(List.range len).map fun i=>if h:i < len then Classical.choose (key i h) else 0,e,⟨by simp,fun h=>(by cases h),fun ad h t ht=>?_⟩,by omega⟩;obtain rfl:=Option.some.inj h
  have:((List.range len).map fun i=>if h:i < len then Classical.choose (key i h) else 0).getD t 0=Classical.choose (key t ht):=by simp [List.getD,ht]
  rw [this];exact Classical.choose_spec (key t ht)
theorem Dz {H:Type} {enc:TypeId × Value -> H} {W:World} {fuel:Nat} {v:Value} {x:DataW H × List MemPlace}
  (h:DataW.trod enc Tryz.prog W 0 (fun _=>true) true fuel 24 [v]=some x) (hw:Rows.uptoBulk x.1 <= 1048576):∃ (ao:Option Addr) (n cap:Nat) (L:List Sn),v = .slice ao n cap/\cJ W ao n cap L/\n <= 1048576:=by
 rcases DataW.trod_slice Tryz.underlying24 h with h0 | ⟨a,len,cap,elems,rest,n,_,gw,hx,hb,hl,hm,cP,hel,ov,hns⟩
 ·have e:v = .slice none 0 0:=by simpa using h0.1
  exact ⟨none,0,0,[],e,cJ.empty _,Nat.zero_le _⟩
 ·subst hx
  have e:v = .slice (some a) len cap:=by simpa using gw
  simp only [Rows.uptoBulk] at hw;have h1:=vx (elems.map (·.1));simp only [List.length_map] at h1
  have key:∀ i,i < len -> ∃ e:Sn,gA W (a.add (i * 3)) e:=by
   intro i hi;have he:=hel i hi;obtain ⟨y,hy⟩:∃ y,elems[i]? = some y:=⟨_,List.getElem?_eq_getElem (by omega)⟩;rw [hy,pw,Option.bind_eq_some_iff] at he;obtain ⟨cs',gw,uO⟩:=he;obtain ⟨_,-,fV⟩:=World.cells?_some gw;obtain ⟨e,rfl⟩:=zcX uO;have g0:=fV 0 (by omega);rw [add_zero] at g0;exact ⟨e,⟨g0,fV 1 (by omega),fV 2 (by omega)⟩⟩
  refine ⟨some a,len,cap,(List.range len).map fun i=>if h:i < len then Classical.choose (key i h) else sn0,e,⟨by simp,fun h=>(by cases h),fun ad h t ht=>?_,by omega,hl⟩,by omega⟩;obtain rfl:=Option.some.inj h
  have:((List.range len).map fun i=>if h:i < len then Classical.choose (key i h) else sn0).getD t sn0=Classical.choose (key t ht):=by simp [List.getD,ht]
  rw [this];exact Classical.choose_spec (key t ht)
theorem tz {H:Type} {enc:TypeId × Value -> H} {W:World} {fuel:Nat} {cs:List Value} {x:DataW H × List MemPlace}
  (h:DataW.trod enc Tryz.prog W 0 (fun _=>true) true fuel 26 cs=some x) (hw:Rows.uptoBulk x.1 <= 1048576):∃ p:Pv,cs=[.slice p.vo p.vn p.vc,.slice p.co p.cn p.cc]/\ak W p/\p.P.cloud.length <= 1048576:=by
 obtain ⟨xs,m,_,hx,fD,oJ,hf⟩:=DataW.trod_struct Tryz.underlying26 h;obtain ⟨v0,v1,rfl⟩:=iZ (fD.trans mG);obtain ⟨y0,y1,rfl⟩:=iZ oJ;have t0:=hf 0 _ rfl;have t1:=hf 1 _ rfl;simp [Ai,uX] at t0 t1;subst hx;simp only [Rows.uptoBulk,List.map_cons,List.map_nil,Rows.uptoBulkAll] at hw;obtain ⟨a0,l0,c0,Z,rfl,S0,g0⟩:=DV t0 (by omega);obtain ⟨a1,l1,c1,L,rfl,S1,g1⟩:=Dz t1 (by omega);exact ⟨⟨a0,l0,c0,a1,l1,c1,⟨Z,L⟩⟩,rfl,⟨S0,S1,by show l0 <= _;omega⟩,by show L.length <= _;rw [S1.len];exact g1⟩
end
section
open Go.ChangeShapes Go.WideShapes Go.ChangeAt Go.RowKit Go.Joins

def DW (L:List Rc):Prop:=L.length <= 209715/\∀ r∈L,r.p.P.cloud.length <= 1048576
structure FcU (w:World) (f:Fc):Prop where
 ok:a8 w f
 row:FcR f
 sm:DW f.rs
 an:f.an <= 1048576
theorem FcU.rn {w:World} {f:Fc} (h:FcU w f):f.rn <= 209715:=by rw [<- h.ok.rs.len];exact h.sm.1
theorem nu:Tryz.prog.cellsOf 84=3:=by kernel_rfl
theorem sP:Tryz.prog.cellsOf 9=1:=by kernel_rfl
theorem sC:Tryz.prog.cellsOf 22=1:=by kernel_rfl
theorem sI:Tryz.prog.cellsOf 27=1:=by kernel_rfl
theorem sA:Tryz.prog.cellsOf 29=4:=by kernel_rfl
theorem bm {H:Type}:∀ (l:List (DataW H)) (d:DataW H),d∈l -> Rows.uptoBulk d <= Rows.uptoBulkAll l
 | e :: l,d,h=>by
  simp only [Rows.uptoBulkAll];rcases List.mem_cons.1 h with rfl | h
  ·omega
  ·have:=bm l d h;omega
theorem zau {H:Type}:∀ (l:List (DataW H)),(∀ d∈l,5 <= Rows.uptoBulk d) -> 5 * l.length <= Rows.uptoBulkAll l
 | [],_=>by simp
 | d :: l,h=>by
  have h1:=zau l (fun e he=>h e (List.mem_cons_of_mem _ he));have h2:=h d List.mem_cons_self;simp only [Rows.uptoBulkAll,List.length_cons];omega
theorem Am {H:Type} {enc:TypeId × Value -> H} {W:World} {fuel:Nat} {v:Value} {x:DataW H × List MemPlace}
  (h:DataW.trod enc Tryz.prog W 0 (fun _=>true) true fuel 22 [v]=some x) (hw:Rows.uptoBulk x.1 <= 1048576):∃ (ao:Option Addr) (n cap:Nat) (L:List K.En),v = .slice ao n cap/\K.aF W ao n cap L/\n <= 1048576:=by
 rcases DataW.trod_slice Tryz.underlying22 h with h0 | ⟨a,len,cap,elems,rest,n,_,gw,hx,hb,hl,hm,cP,hel,ov,hns⟩
 ·have e:v = .slice none 0 0:=by simpa using h0.1
  exact ⟨none,0,0,[],e,⟨rfl,fun _=>⟨rfl,rfl⟩,fun ad h=>(by cases h),fun e he=>(by cases he),Nat.zero_le _⟩,Nat.zero_le _⟩
 ·subst hx
  have e:v = .slice (some a) len cap:=by simpa using gw
  simp only [Rows.uptoBulk] at hw;have h1:=vx (elems.map (·.1));simp only [List.length_map] at h1
  have key:∀ i,i < len -> ∃ e:K.En,K.gB W (a.add (i * 4)) e/\e.sku.size <= maxLen:=by
   intro i hi;have he:=hel i hi;obtain ⟨y,hy⟩:∃ y,elems[i]? = some y:=⟨_,List.getElem?_eq_getElem (by omega)⟩;rw [hy,K.nr,Option.bind_eq_some_iff] at he;obtain ⟨cs',gw,uO⟩:=he;obtain ⟨_,-,fV⟩:=World.cells?_some gw;obtain ⟨e,rfl,hs⟩:=K.zb6 uO;have g0:=fV 0 (by omega);rw [add_zero] at g0;exact ⟨e,⟨g0,fV 1 (by omega),fV 2 (by omega),fV 3 (by omega)⟩,hs⟩
  refine ⟨some a,len,cap,(List.range len).map fun i=>if h:i < len then Classical.choose (key i h) else K.en0,e,⟨by simp,fun h=>(by cases h),fun ad h t ht=>?_,fun e he=>?_,by omega⟩,by omega⟩
  ·obtain rfl:=Option.some.inj h
   have:((List.range len).map fun i=>if h:i < len then Classical.choose (key i h) else K.en0).getD t K.en0=Classical.choose (key t ht):=by simp [List.getD,ht]
   rw [this];exact (Classical.choose_spec (key t ht)).1
  ·simp only [List.mem_map,List.mem_range] at he;obtain ⟨i,hi,rfl⟩:=he;rw [dif_pos hi];exact (Classical.choose_spec (key i hi)).2
theorem zcU {H:Type} {enc:TypeId × Value -> H} {W:World} {fuel:Nat} {cs:List Value} {x:DataW H × List MemPlace}
  (h:DataW.trod enc Tryz.prog W 0 (fun _=>true) true fuel 26 cs=some x):3 <= Rows.uptoBulk x.1:=by
 obtain ⟨xs,m,_,hx,fD,oJ,hf⟩:=DataW.trod_struct Tryz.underlying26 h;obtain ⟨y0,y1,rfl⟩:=iZ oJ;subst hx;have h0:=vw y0.1;have h1:=vw y1.1;simp only [Rows.uptoBulk,List.map_cons,List.map_nil,Rows.uptoBulkAll];omega
theorem bZ {H:Type} {enc:TypeId × Value -> H} {W:World} {fuel:Nat} {cs:List Value} {x:DataW H × List MemPlace}
  (h:DataW.trod enc Tryz.prog W 0 (fun _=>true) true fuel 84 cs=some x):5 <= Rows.uptoBulk x.1/\(Rows.uptoBulk x.1 <= 1048576 -> ∃ r:Rc,cs=(ReC (mkR r)).toList/\dp W r/\r.p.P.cloud.length <= 1048576):=by
 obtain ⟨xs,m,_,hx,fD,oJ,hf⟩:=DataW.trod_struct Tryz.underlying84 h;obtain ⟨v0,v1,v2,rfl⟩:=iW (fD.trans nu);obtain ⟨y0,y1,rfl⟩:=iZ oJ;have t0:=hf 0 _ rfl;have t1:=hf 1 _ rfl;simp [mG,sP] at t0 t1;subst hx;simp only [Rows.uptoBulk,List.map_cons,List.map_nil,Rows.uptoBulkAll];have b0:=vw y0.1;have b1:=zcU t1;refine ⟨by omega,fun hw=>?_⟩;obtain ⟨s,e0,-,hs⟩:=DataW.trod_string Tryz.underlying9 t0;obtain ⟨p,ep,Sp,hl⟩:=tz t1 (by omega);simp only [List.cons.injEq,and_true] at e0 ep;obtain ⟨rfl,rfl⟩:=ep;subst e0;exact ⟨⟨s,p⟩,rfl,⟨Sp,hs⟩,hl⟩
theorem Ae {H:Type} {enc:TypeId × Value -> H} {W:World} {fuel:Nat} {v:Value} {x:DataW H × List MemPlace}
  (h:DataW.trod enc Tryz.prog W 0 (fun _=>true) true fuel 27 [v]=some x) (hw:Rows.uptoBulk x.1 <= 1048576):∃ (ao:Option Addr) (n cap:Nat) (L:List Rc),v = .slice ao n cap/\RcT W ao n cap L/\DW L:=by
 rcases DataW.trod_slice Tryz.underlying27 h with h0 | ⟨a,len,cap,elems,rest,n,_,gw,hx,hb,hl,hm,cP,hel,ov,hns⟩
 ·have e:v = .slice none 0 0:=by simpa using h0.1
  exact ⟨none,0,0,[],e,⟨RcS.empty _,Nat.le_refl _,fun _=>rfl⟩,Nat.zero_le _,fun r hr=>by cases hr⟩
 ·subst hx
  have e:v = .slice (some a) len cap:=by simpa using gw
  simp only [Rows.uptoBulk] at hw
  have op:∀ i (hi:i < elems.length),i < len/\∃ cs',(5 <= Rows.uptoBulk elems[i].1/\(Rows.uptoBulk elems[i].1 <= 1048576 -> ∃ r:Rc,cs'=(ReC (mkR r)).toList/\dp W r/\r.p.P.cloud.length <= 1048576))/\(∀ j,j < 3 -> W.cell? ((a.add (i * 3)).add j)=cs'[j]?):=by
   intro i hi
   have iJ:i < len:=by omega
   have he:=hel i iJ;rw [List.getElem?_eq_getElem hi,nu,Option.bind_eq_some_iff] at he;obtain ⟨cs',gw,uO⟩:=he;obtain ⟨_,-,fV⟩:=World.cells?_some gw;exact ⟨iJ,cs',bZ uO,fun j hj=>fV j hj⟩
  have h5:=zau (elems.map (·.1)) (fun d hd=>by
   obtain ⟨y,hy,rfl⟩:=List.mem_map.1 hd;obtain ⟨i,hi,rfl⟩:=List.getElem_of_mem hy;obtain ⟨-,_,h,-⟩:=op i hi
   exact h.1)
  simp only [List.length_map] at h5
  have key:∀ i,i < len -> ∃ r:Rc,gQ W (a.add (i * 3)) (mkR r)/\dp W r/\r.p.P.cloud.length <= 1048576:=by
   intro i hi
   have iJ:i < elems.length:=by omega
   obtain ⟨-,cs',h,fV⟩:=op i iJ;obtain ⟨r,rfl,hr,Kw⟩:=h.2 (by have:=bm (elems.map (·.1)) elems[i].1 (List.mem_map_of_mem (f:=(·.1)) (List.getElem_mem iJ));omega);have g0:=fV 0 (by omega);rw [add_zero] at g0;exact ⟨r,⟨g0,fV 1 (by omega),fV 2 (by omega)⟩,hr,Kw⟩
  refine ⟨some a,len,cap,(List.range len).map fun i=>if h:i < len then Classical.choose (key i h) else rc0,e,⟨⟨by simp,(fun h=>by cases h),fun ad h t ht=>?_,fun r hr=>?_,by omega⟩,hl,fun h=>by cases h⟩,by simp;omega,fun r hr=>?_⟩
  ·obtain rfl:=Option.some.inj h
   have:((List.range len).map fun i=>if h:i < len then Classical.choose (key i h) else rc0).getD t rc0=Classical.choose (key t ht):=by simp [List.getD,ht]
   rw [this];exact (Classical.choose_spec (key t ht)).1
  ·simp only [List.mem_map,List.mem_range] at hr;obtain ⟨i,hi,rfl⟩:=hr;rw [dif_pos hi];exact (Classical.choose_spec (key i hi)).2.1
  ·simp only [List.mem_map,List.mem_range] at hr;obtain ⟨i,hi,rfl⟩:=hr;rw [dif_pos hi];exact (Classical.choose_spec (key i hi)).2.2
theorem vU {H:Type} {enc:TypeId × Value -> H} {W:World} {fuel:Nat} {cs:List Value} {x:DataW H × List MemPlace}
  (h:DataW.trod enc Tryz.prog W 0 (fun _=>true) true fuel 29 cs=some x) (hw:Rows.uptoBulk x.1 <= 1048576):∃ f:Fc,cs=(FaC (mkF f)).toList/\FcU W f:=by
 obtain ⟨xs,m,_,hx,fD,oJ,hf⟩:=DataW.trod_struct Tryz.underlying29 h;obtain ⟨v0,v1,v2,v3,rfl⟩:=K.tE (fD.trans sA);obtain ⟨y0,y1,y2,rfl⟩:=iW oJ;have t0:=hf 0 _ rfl;have t1:=hf 1 _ rfl;have t2:=hf 2 _ rfl;simp [mG,sC,sI] at t0 t1 t2;subst hx;simp only [Rows.uptoBulk,List.map_cons,List.map_nil,Rows.uptoBulkAll] at hw;obtain ⟨ro,rn,rc,R,rfl,Sr,r1⟩:=Ae t2 (by omega);obtain ⟨ao,an,ac,A,rfl,Sa,a1⟩:=Am t0 (by omega);obtain ⟨p,ep,Sp,-⟩:=tz t1 (by omega);simp only [List.cons.injEq,and_true] at ep;obtain ⟨rfl,rfl⟩:=ep;exact ⟨⟨ao,an,ac,A,p,ro,rn,rc,R⟩,rfl,⟨Sa,Sp,Sr.src⟩,⟨Sr.room,Sr.nil⟩,r1,a1⟩
end
section
open Go.ChangeShapes Go.WideShapes Go.ChangeAt Go.RowKit Go.Joins
theorem FcU.b {w:World} {s:Fc} (h:FcU w s):SwB 1 w s:=⟨h.ok,h.row,by have:=h.rn;omega,by have:=h.an;omega,h.sm.2⟩
end
section
open Go.RowKit
attribute [local go_sem ↓] zK zJ jl jb
attribute [local go_sem] zj zr zF q9 xz
end
section
open Go.RowKit
theorem zgu {f:Fc} (hr:f.rs.length=f.rn) (ff:aB f):(∀ r∈f.rs,aM r)/\Srt ck (plR f.rs):=ji.1 (by rw [hr];exact ff.2.2)
theorem yz {w:World} {f s:Fc} (hS:a8 w s) (hl:f.es.length=f.an) (hr:f.rs.length=f.rn) (ff:aB f) (h:StD f s):aJ s:=by
 obtain ⟨h1,h2,h3⟩:=h;have hc:=(xk hl).2 ff.1;have hs:=zgu hr ff
 have sub:∀ y∈plR s.rs,y∈plR f.rs/\¬ wiP y.2 s.p.P:=fun y hy=>by
  rw [h3.2,List.mem_filter] at hy;refine ⟨hy.1,fun k=>?_⟩;have:=hy.2;rw [vh k] at this
  cases this
 have mem:∀ e∈s.es,e∈f.es/\inB f.p.P e=false/\cN f.rs e=true:=fun e he=>by
  rw [h1,List.mem_filter] at he;have h4:=he.2;unfold lvB at h4;rw [Bool.and_eq_true,Bool.not_eq_true'] at h4;exact ⟨he.1,h4.1,h4.2⟩
 refine (wd hS).2 ⟨?_,h2.1,⟨fun y hy=>?_,?_⟩,fun e he=>?_,fun y hy=>(sub y hy).2,fun e he r hr=>?_⟩
 ·show K.chk s.es=0
  rw [h1];exact ym hc _
 ·obtain ⟨r,hr,rfl⟩:=List.mem_map.1 (sub y hy).1;exact hs.1 r hr
 ·show Srt ck (plR s.rs)
  rw [h3.2];exact List.Pairwise.filter _ hs.2
 ·exact (zah h2 e).2 (.inl ⟨zap (xN hc e (mem e he).1),e,(mem e he).1,rfl⟩)
 ·exact (j1 _ _).1 (mem e he).2.2 r (sub r hr).1
theorem Ib {N:Nat} {w w':World} {f s:Fc} (hB:SwB N w f) (hS:a8 w' s) (hr:FcR s) (h:StD f s):SwB N w' s:=by
 refine ⟨hS,hr,?_,?_,zfl h.2.2 hB.cl⟩
 ·have h1:=congrArg List.length h.2.2.2;have h2:=List.length_filter_le (waitB s.p.P) (plR f.rs);rw [jt] at h1;rw [jt] at h2;have h3:=hS.rs.len;have h4:=hB.ok.rs.len;have h5:=hB.rn;omega
 ·have h1:s.es.length <= f.es.length:=by rw [h.1];exact List.length_filter_le _ _
  have h3:=hS.es.1;have h4:=hB.ok.es.1;have h5:=hB.an;omega
attribute [local go_sem ↓] zM zL zK zJ jl jb
attribute [local go_sem] zj zr zF q9 xz
end
section
open Go.RowKit
def CoR (f s:Fc) (er:Int):Prop:=(¬ aB f/\er=1/\s=fz0)∨(aB f/\er=0/\StD f s)
def CoE (N:Nat) (w w':World) (x:Ending) (f:Fc):Prop:=∃ s er,x = .returned (.tuple #[FaV (mkF s),.int .i64 er])/\SwB N w' s/\Below w.heap.size w w'/\CoR f s er
theorem DG (w:World) (f:Fc):∃ wk,(w.alloc (.cells (FaC (mkF f)) 29)).alloc (.cells (FaC (mkF fz0)) 38)=wk/\Hid (aD wk w.heap.size (mkF f))/\Hid (aI wk (w.heap.size+1) (mkF fz0))/\Hid (Below w.heap.size w wk):=by
 have b1:=ze w (.cells (FaC (mkF f)) 29);have b2:=ze (w.alloc (.cells (FaC (mkF f)) 29)) (.cells (FaC (mkF fz0)) 38);have X2:=qD (w.alloc (.cells (FaC (mkF f)) 29)) (mkF fz0);rw [World.size_alloc] at X2;exact ⟨_,rfl,(zP w (mkF f)).below b2,X2,b1.trans (b2.mono b1.size)⟩
attribute [local go_sem ↓] zl zk zM zL zK zJ xm
attribute [local go_sem] zf zh zw zj zr zF qV xQ
theorem jx (N:Nat) (hN:N <= 4) (f:Fc) (w:World) (hS:SwB N w f):Calls Tryz.prog 10 #[FaV (mkF f)] w fun e w'=>CoE N w w' e f:=by
 obtain ⟨wk,cq,HX,HZ,az⟩:=DG w f;obtain ⟨G,dC⟩:∃ G,w.heap.size=G:=⟨_,rfl⟩;rw [dC] at HX HZ;have iP:Hid (w.heap.size=G):=dC;have HS:=hide (hS.below az.out);have HU:=hide ((hS.below az.out).u hN);clear hS;have l0:=qd HX.out;go_enter Tryz.func10,Tryz.ntmps10;go_wp2_with fail;clear cq dC l0;refine (bC f _ HU.out.ok).mono ?_;rintro e v3 ⟨p,er,rfl,Sp,-,b3,hp⟩;obtain ⟨g4,AN⟩:∃ g,v3.heap.size=g:=⟨_,rfl⟩;obtain ⟨w3,cr,X3,B3,-⟩:=ip v3 p g4 AN;have b33:=b3.trans (B3.mono b3.size);have aN:=hide b33;have Jh:=hide X3;have JP:=hide (Sp.below B3);have HP:=hide (zbk hp);have A3:=HZ.out.below b33;clear Sp b3 hp X3 B3 b33;rcases HP.out with ⟨h1,rfl,-⟩ | ⟨h1,rfl,h2⟩
 ·have st:=jI (m':=mkF fz0) A3;have dO:Hid (aI (w3.setRow (G+1) (FaC (mkF fz0))) (G+1) (mkF fz0)):=A3.setRow;have HE:Hid (CoE N w (w3.setRow (G+1) (FaC (mkF fz0))) (.returned (.tuple #[FaV (mkF fz0),.int .i64 1])) f):=⟨fz0,1,rfl,zdm N _,zg (az.out.trans (aN.out.mono az.out.size)) (by rw [iP.out];omega),.inl ⟨h1,rfl,rfl⟩⟩;clear h1 A3 HP;go_wp2_with fail;clear st cr AN;refine bodyPost_ret (ii rfl rfl rfl dO.out) rfl ?_;exact HE.out
 have ug:=hide h1;have HH:=hide h2;have ru:=hide A3;have l0:=qd (HX.out.below aN.out);clear h1 h2 A3 HP;go_wp2_with fail;clear l0 cr AN;refine (bD f _ (HU.out.ok.below aN.out) HU.out.wt HU.out.nm).mono ?_;rintro e w5 hL;obtain ⟨lo,ln,lc,rfl,SL,b5,-⟩:K.cU w3 w5 e (dG f) 0:=hL.elim (fun h=>by have:=h.2;rwa [zfw] at this) fun h=>absurd ug.out h.1;have ee:=wTr aN b5;have Mh:=hide SL;have Ct:=hide (Jh.out.below b5);have BF:=hide (JP.out.below b5);have c3:=(HX.out.below ee.out).cs.2
 have lp:=zi Ct.out.at
 clear hL SL b5 Jh JP;go_wp2_with fail;clear c3 lp;refine (jm f.ro f.rn f.rc f.rs p _ ((HS.out.ok.row HS.out.row).below ee.out) BF.out (by have:=HU.out.rn;omega)).mono ?_;rintro e w7 (⟨-,-,⟨fo,fn,fc⟩,F,rfl,GF,nF,WF⟩ | ⟨hno,-,-⟩);rotate_left
 ·exact absurd ⟨ug.out.2.2,HH.out.1⟩ hno
 rw [show HsV ⟨fo,fn,fc⟩=Value.slice fo fn fc from rfl];have cM:=wTr ee GF.below;have Gt:=hide (Ct.out.below GF.below);have A9:=HZ.out.below cM.out;have st:=jI (m':=mkF ⟨lo,ln,lc,dG f,p,fo,fn,fc,F⟩) A9;have dO:Hid (aI (w7.setRow (G+1) (FaC (mkF ⟨lo,ln,lc,dG f,p,fo,fn,fc,F⟩))) (G+1) (mkF ⟨lo,ln,lc,dG f,p,fo,fn,fc,F⟩)):=A9.setRow;have iE:a8 (w7.setRow (G+1) (FaC (mkF ⟨lo,ln,lc,dG f,p,fo,fn,fc,F⟩))) ⟨lo,ln,lc,dG f,p,fo,fn,fc,F⟩:=a8.offW (f:=⟨lo,ln,lc,dG f,p,fo,fn,fc,F⟩) ⟨Mh.out.below GF.below,BF.out.below GF.below,GF.src⟩ A9 _;have pU:StD f ⟨lo,ln,lc,dG f,p,fo,fn,fc,F⟩:=⟨rfl,HH.out,WF⟩
 have HE:Hid (CoE N w (w7.setRow (G+1) (FaC (mkF ⟨lo,ln,lc,dG f,p,fo,fn,fc,F⟩))) (.returned (.tuple #[FaV (mkF ⟨lo,ln,lc,dG f,p,fo,fn,fc,F⟩),.int .i64 0])) f):=
  ⟨⟨lo,ln,lc,dG f,p,fo,fn,fc,F⟩,0,rfl,Ib HS.out iE ⟨GF.room,GF.nil⟩ pU,zg (az.out.trans (cM.out.mono az.out.size)) (by rw [iP.out];omega),.inr ⟨ug.out,rfl,pU⟩⟩
 have st2:(pG (.pointer (some ⟨G+1,0,none⟩)) (.agg (FaC (mkF ⟨lo,ln,lc,[],p,fo,fn,fc,[]⟩)))).run Tryz.prog w7 = .ok () (w7.setRow (G+1) (FaC (mkF ⟨lo,ln,lc,dG f,p,fo,fn,fc,F⟩))):=st
 have lq:=zi Gt.out.at
 clear A9 st iE pU GF nF WF;go_wp2_with fail;clear st2 lq;refine bodyPost_ret (ii rfl rfl rfl dO.out) rfl ?_;exact HE.out
end
section
open Go.RowKit
structure Fp where
 E:K.En -> Prop
 G:K.En -> Prop
 R:Rp -> Prop
def fp (f:Fc):Fp:=⟨fun e=>e∈f.es,fun e=>inB f.p.P e=true,fun q=>q∈plR f.rs⟩
def un (x y:Fp):Fp:=⟨fun e=>x.E e∨y.E e,fun e=>x.G e∨y.G e,fun q=>x.R q∨y.R q⟩
def hr (x:Fp) (e:K.En):Prop:=(okD (am e)=true/\∃ z,x.E z/\am z=am e)∨x.G e
def lv (x:Fp) (e:K.En):Prop:=x.E e/\¬ x.G e/\∀ q,x.R q -> lR q e=false
def wts (x:Fp) (q:Rp):Prop:=x.R q/\¬ ∀ e,inB q.2 e=true -> hr x e
def lvd (x:Fp) (e:K.En):Prop:=∃ z,lv x z/\am z=am e
def lk (x y:Fp):Fp:=⟨fun e=>lv y e/\¬ hr x e,fun e=>(hr y e/\¬ lvd y e)/\¬ (hr x e/\¬ lvd x e),wts y⟩
structure Sm (x y:Fp):Prop where
 h:∀ e,hr x e↔hr y e
 l:∀ e,lv x e↔lv y e
 w:∀ q,wts x q↔wts y q
structure Ok (x:Fp):Prop where
 d:∀ e,x.E e -> okD (am e)=true
 g:∀ a b,am a=am b -> x.G a -> x.G b
def Nc (x y:Fp):Prop:=∀ a b,(x.E a∨y.E a) -> (x.E b∨y.E b) -> am a=am b -> a=b
theorem zf1 {x y:Fp} (e:K.En):hr (un x y) e↔hr x e∨hr y e:=by
 constructor
 ·rintro (⟨h1,z,h2 | h2,h3⟩ | h | h)
  ·exact .inl (.inl ⟨h1,z,h2,h3⟩)
  ·exact .inr (.inl ⟨h1,z,h2,h3⟩)
  ·exact .inl (.inr h)
  ·exact .inr (.inr h)
 ·rintro ((⟨h1,z,h2,h3⟩ | h) | (⟨h1,z,h2,h3⟩ | h))
  ·exact .inl ⟨h1,z,.inl h2,h3⟩
  ·exact .inr (.inl h)
  ·exact .inl ⟨h1,z,.inr h2,h3⟩
  ·exact .inr (.inr h)
end
section
open Go.RowKit
theorem SwB.offFa {N:Nat} {W:World} {g:Nat} {m:ct} {f:Fc} (h:SwB N W f) (A:aD W g m) (c:Array Value):SwB N (W.setRow g c) f:=⟨h.ok.offF A c,h.row,h.rn,h.an,h.cl⟩
theorem jQ {f:Fc} (hl:f.es.length=f.an) (h:aB f):K.chk f.es=0:=(xk hl).2 h.1
def JfD (f g h:Fc):Prop:=K.Asc h.es/\(∀ e,e∈h.es↔e∈f.es∨e∈g.es)/\ae (aA [f.p,g.p]) h.p.P/\gS f.rs g.rs h.rs
def JfR (f g h:Fc) (er:Int):Prop:=(¬ (aB f/\aB g)/\er=1/\h=fz0)∨((aB f/\aB g)/\K.aV (f.es++g.es)/\er=10/\h=fz0)∨((aB f/\aB g)/\¬ K.aV (f.es++g.es)/\er=0/\JfD f g h)
def JfE (N:Nat) (w w':World) (x:Ending) (f g:Fc):Prop:=∃ h er,x = .returned (.tuple #[FaV (mkF h),.int .i64 er])/\SwB N w' h/\Below w.heap.size w w'/\JfR f g h er
theorem yx (N M:Nat) (hNM:N+M <= 4) (f g:Fc) (w:World) (hF:SwB N w f) (hG:SwB M w g):Calls Tryz.prog 8 #[FaV (mkF f),FaV (mkF g)] w fun e w'=>JfE (N+M) w w' e f g:=by
 have ni:f.rn+g.rn <= (N+M) * 209716:=by have h1:=hF.rn;have h2:=hG.rn;rw [Nat.add_mul];omega
 refine (zcA f g w hF.ok hG.ok hF.row hG.row (by omega)).mono ?_;rintro e w' ⟨h,er,rfl,Fh,Rh,-,b,hj⟩;rcases hj with ⟨h1,rfl,rfl⟩ | ⟨h1,h2,R,e,hU,⟨h3,rfl,rfl⟩ | ⟨rfl,rfl,h4,h5,h6,h7⟩⟩
 ·exact ⟨fz0,1,rfl,zdm _ _,b,.inl ⟨h1,rfl,rfl⟩⟩
 ·refine ⟨fz0,_,rfl,zdm _ _,b,.inr (.inl ⟨⟨h1,h2⟩,?_⟩)⟩;rcases hU with ⟨k,-⟩ | ⟨-,⟨k,-,q⟩ | ⟨-,k,-⟩⟩
  ·exact absurd ⟨jQ hF.ok.es.1 h1,jQ hG.ok.es.1 h2⟩ k
  ·exact ⟨k,q,rfl⟩
  ·exact absurd k h3
 ·rcases hU with ⟨k,-⟩ | ⟨-,⟨-,-,q⟩ | ⟨k,-,q,r⟩⟩
  ·exact absurd ⟨jQ hF.ok.es.1 h1,jQ hG.ok.es.1 h2⟩ k
  ·cases q
  ·subst h4
   have hm:∀ e,e∈h.es↔e∈f.es∨e∈g.es:=fun e=>by rw [r e,List.mem_append]
   refine ⟨h,0,rfl,⟨Fh,Rh,Nat.le_trans h7 ni,?_,zgs h6 hF.cl hG.cl⟩,b,.inr (.inr ⟨⟨h1,h2⟩,k,rfl,q,hm,h5,h6⟩)⟩;have n1:h.es.Nodup:=q.imp (fun {a b} dW e=>by subst e;rw [K.jD] at dW;cases dW);have n2:=kD (Y:=f.es++g.es) n1 (fun x hx=>List.mem_append.2 ((hm x).1 hx));rw [List.length_append,hF.ok.es.1,hG.ok.es.1,Fh.es.1] at n2;have n3:=hF.an;have n4:=hG.an;rw [Nat.add_mul];omega
theorem yT {w:World} {f g h:Fc} (hH:a8 w h) (hf:f.es.length=f.an) (hg:g.es.length=g.an) (ff:aB f) (fg:aB g) (j:JfD f g h):aB h:=by
 obtain ⟨u1,u2,u3,u4⟩:=j;refine ⟨(xk hH.es.1).1 (K.wo u1 fun e he=>?_),zz.1 u3.canon,by rw [<- hH.rs.len];exact u4.ok⟩;rcases (u2 e).1 he with k | k
 ·exact xN (jQ hf ff) e k
 ·exact xN (jQ hg fg) e k
theorem zgM {x y:Fp} (h1:∀ e,x.E e↔y.E e) (h2:∀ e,x.G e↔y.G e) (h3:∀ q,x.R q↔y.R q):x=y:=by
 obtain ⟨a,b,c⟩:=x;obtain ⟨a',b',c'⟩:=y;obtain rfl:a=a':=funext fun e=>propext (h1 e);obtain rfl:b=b':=funext fun e=>propext (h2 e);obtain rfl:c=c':=funext fun e=>propext (h3 e);rfl
theorem zg5 {f g h:Fc} (j:JfD f g h):fp h=un (fp f) (fp g):=zgM j.2.1 (fun e=>zar j.2.2.1 e) j.2.2.2.1.2
theorem zgL {f:Fc} (hc:K.chk f.es=0):Ok (fp f):=⟨fun e he=>zap (xN hc e he),fun a b hd h=>by
 show inB f.p.P b=true
 rw [<- zf6 hd];exact h⟩
theorem zg6 {o f:Fc} (hn:¬ K.aV (o.es++f.es)):Nc (fp o) (fp f):=fun a b ha hb hd=>Classical.byContradiction fun aT=>hn ⟨a,List.mem_append.2 ha,b,List.mem_append.2 hb,zgO hd,aT⟩
attribute [local go_sem ↓] zM zL zK zJ jl jb
attribute [local go_sem] zj zr zF q9 xz
end
section
open Go.RowKit
theorem bG {f s:Fc} (hs:StD f s) (e:K.En):e∈s.es↔lv (fp f) e:=by
 rw [hs.1,List.mem_filter];unfold lvB;rw [Bool.and_eq_true,Bool.not_eq_true',j1];exact and_congr_right fun _=>and_congr Bool.eq_false_iff Iff.rfl
theorem kM {f s:Fc} (hs:StD f s) (e:K.En):inB s.p.P e=true↔hr (fp f) e:=zah hs.2.1 e
theorem vE {f s:Fc} (hs:StD f s) (q:Rp):q∈plR s.rs↔wts (fp f) q:=by
 rw [hs.2.2.2,List.mem_filter];refine and_congr_right fun _=>⟨fun k c=>?_,fun k=>vA fun c=>k fun e he=>(kM hs e).1 (wE.1 c e he)⟩;rw [vh (wE.2 fun e he=>(kM hs e).2 (c e he))] at k
 cases k
theorem zfT {x y:Fp} (h:Nc x y):Nc y x:=fun a b ha hb=>h a b ha.symm hb.symm
theorem zfB {x y:Fp} (hn:Nc x y) {e:K.En} (he:x.E e∨y.E e) (h:hr x e):x.E e∨x.G e:=by
 rcases h with ⟨-,z,hz,hd⟩ | h
 ·rw [<- hn z e (.inl hz) he hd];exact .inl hz
 ·exact .inr h
theorem zg3 {x y:Fp} (_:Ok x) (_:Ok y) (hn:Nc x y) (e:K.En):lv (un x y) e↔((lv x e∨lv y e)/\(hr x e -> lv x e)/\(hr y e -> lv y e))/\(∀ q,wts x q -> lR q e=false)/\∀ q,wts y q -> lR q e=false:=by
 constructor
 ·rintro ⟨h1,h2,h3⟩;have gx:¬ x.G e:=fun q=>h2 (.inl q);have gy:¬ y.G e:=fun q=>h2 (.inr q);have fx:∀ q,x.R q -> lR q e=false:=fun q hq=>h3 q (.inl hq);have fy:∀ q,y.R q -> lR q e=false:=fun q hq=>h3 q (.inr hq);refine ⟨⟨h1.imp (fun k=>⟨k,gx,fx⟩) (fun k=>⟨k,gy,fy⟩),fun k=>?_,fun k=>?_⟩,fun q hq=>fx q hq.1,fun q hq=>fy q hq.1⟩
  ·exact (zfB hn h1 k).elim (fun k=>⟨k,gx,fx⟩) fun k=>absurd k gx
  ·exact (zfB (zfT hn) h1.symm k).elim (fun k=>⟨k,gy,fy⟩) fun k=>absurd k gy
 ·rintro ⟨⟨h1,h2,h3⟩,h4,h5⟩;have gx:¬ x.G e:=fun k=>(h2 (.inr k)).2.1 k;have gy:¬ y.G e:=fun k=>(h3 (.inr k)).2.1 k;refine ⟨h1.imp And.left And.left,fun k=>k.elim gx gy,fun q hq=>?_⟩;rw [Bool.eq_false_iff];intro hc;rcases hq with hq | hq
  ·by_cases w:∀ a,inB q.2 a=true -> hr x a
   ·have:=(h2 (w e (zdv hc))).2.2 q hq;rw [this] at hc;cases hc
   ·rw [h4 q ⟨hq,w⟩] at hc;cases hc
  ·by_cases w:∀ a,inB q.2 a=true -> hr y a
   ·have:=(h3 (w e (zdv hc))).2.2 q hq;rw [this] at hc;cases hc
   ·rw [h5 q ⟨hq,w⟩] at hc;cases hc
theorem zgt {f g s t:Fc} (hc:¬ K.aV (f.es++g.es)) (hs:StD f s) (ht:StD g t):¬ K.aV (s.es++t.es):=by
 rintro ⟨x,hx,y,hy,k,aT⟩
 have sub:∀ {e:K.En},e∈s.es++t.es -> e∈f.es++g.es:=fun {e} he=>by
  rw [List.mem_append] at he ⊢;exact he.imp (fun k=>((bG hs e).1 k).1) fun k=>((bG ht e).1 k).1
 exact hc ⟨x,sub hx,y,sub hy,k,aT⟩
theorem zg1 {f g h s t u:Fc} (cf:K.chk f.es=0) (cg:K.chk g.es=0) (hc:¬ K.aV (f.es++g.es)) (j:JfD f g h) (hs:StD f s) (ht:StD g t) (hu:StD h u):JnA (ab s) (ab t) (ab u):=by
 have hn:=zg6 hc;have ox:=zgL cf;have oy:=zgL cg;have eh:=zg5 j;refine ⟨?_,fun e=>?_,hu.2.1.1,fun e=>?_,?_,fun q=>?_⟩
 ·show K.Asc u.es
  rw [hu.1];exact j.1.sublist List.filter_sublist
 ·show e∈u.es↔fK s.es t.es s.p.P t.p.P e/\eI (plR s.rs) e/\eI (plR t.rs) e
  rw [yR (zgt hc hs ht),bG hu,eh,zg3 ox oy hn,bG hs,bG ht,kM hs,kM ht];refine and_congr_right fun _=>and_congr ?_ ?_
  ·exact ⟨fun k q hq=>k q ((vE hs q).1 hq),fun k q hq=>k q ((vE hs q).2 hq)⟩
  ·exact ⟨fun k q hq=>k q ((vE ht q).1 hq),fun k q hq=>k q ((vE ht q).2 hq)⟩
 ·show inB u.p.P e=true↔inB s.p.P e=true∨inB t.p.P e=true
  rw [kM hu,kM hs,kM ht,eh,zf1]
 ·show Srt ck (plR u.rs)
  rw [hu.2.2.2];exact List.Pairwise.filter _ j.2.2.2.1.1
 ·show q∈plR u.rs↔(q∈plR s.rs∨q∈plR t.rs)/\¬ wiP q.2 u.p.P
  have wi:wiP q.2 u.p.P↔∀ e,inB q.2 e=true -> hr (fp f) e∨hr (fp g) e:=by
   rw [wE];refine forall_congr' fun e=>imp_congr_right fun _=>?_;rw [kM hu,eh,zf1]
  rw [vE hu,vE hs,vE ht,eh,wi];unfold wts;have e2:(∀ e,inB q.2 e=true -> hr (un (fp f) (fp g)) e)↔∀ e,inB q.2 e=true -> hr (fp f) e∨hr (fp g) e:=forall_congr' fun e=>imp_congr_right fun _=>zf1 e;rw [e2];constructor
  ·rintro ⟨k,n⟩;exact ⟨k.imp (fun k=>⟨k,fun c=>n fun e he=>.inl (c e he)⟩) (fun k=>⟨k,fun c=>n fun e he=>.inr (c e he)⟩),n⟩
  ·rintro ⟨k,n⟩;exact ⟨k.imp And.left And.left,n⟩
end
section
open Go.RowKit
attribute [local go_sem ↓] zl zk zR zQ
attribute [local go_sem] zf zh zy zH zT
end
section
open Go.RowKit
def G1D (s:Fc):Prop:=s.es=[]/\s.an=0/\s.p.P=sxP/\s.rs=[]/\s.rn=0/\s.rc=0
theorem zcN (v:Option Addr) (m d:Nat) (w:World):(oj #[(1,.agg #[.slice v m d,.slice none 0 0])]).run Tryz.prog w = .ok (.agg #[.slice none 0 0,.slice v m d,.slice none 0 0,.slice none 0 0]) w:=by kernel_rfl
attribute [local go_sem ↓] zl zk zK zJ xm kJ
attribute [local go_sem] zf zh zj zr zF zcN vK
theorem A1D.b {w:World} {s:Fc} (h:A1D s) (hF:a8 w s):SwB 1 w s:=by
 obtain ⟨h1,h2,h3,h4,h5,h6⟩:=h;exact ⟨hF,⟨by omega,fun _=>h6⟩,by omega,by omega,by rw [h4];intro r hr;cases hr⟩
theorem G1D.b {w:World} {s:Fc} (h:G1D s) (hF:a8 w s):SwB 1 w s:=by
 obtain ⟨h1,h2,h3,h4,h5,h6⟩:=h;exact ⟨hF,⟨by omega,fun _=>h6⟩,by omega,by omega,by rw [h4];intro r hr;cases hr⟩
end
section
open Go.RowKit
attribute [local go_sem ↓] zK zJ xm
attribute [local go_sem] zj zr zF qV
end
section
open Go.RowKit
def Ng (a b:Fc) (d:Rn):Prop:=∃ e∈a.es,am e=d/\∃ r∈b.rs,iN r e=true
attribute [local go_sem ↓] zl zk zK zJ qg qf K.zu K.zt zR zQ zbg
attribute [local go_sem] zf zh zj zr zD zN zZ K.zs K.zB K.zC zy zH zT
end
section
open Go.RowKit
def eD (d:Rn):K.En:=⟨d.lo,d.hi,⟨#[]⟩,0⟩
theorem y3 (P:Pst) (d:Rn):cu P d↔inB P (eD d)=true:=(qk P (eD d)).symm
def LvD (s:Fc) (d:Rn):Prop:=∃ e∈s.es,am e=d
theorem DE.cases {s:Fc} {d:Rn} {x:Int} (hf:aJ s) (h:DE s d x):(¬ inB s.p.P (eD d)=true/\x=0)∨(inB s.p.P (eD d)=true/\LvD s d/\x=1)∨(inB s.p.P (eD d)=true/\¬ LvD s d/\x=2):=by
 rcases h with ⟨h,rfl⟩ | ⟨⟨-,h⟩,h2,rfl⟩ | ⟨⟨-,h⟩,h2,rfl⟩
 ·exact .inl ⟨fun k=>h ⟨hf,(y3 _ _).2 k⟩,rfl⟩
 ·exact .inr (.inl ⟨(y3 _ _).1 h,h2,rfl⟩)
 ·exact .inr (.inr ⟨(y3 _ _).1 h,h2,rfl⟩)
attribute [local go_sem ↓] zl zk zK zJ qg qf
attribute [local go_sem] zf zh zj zr zF zD zN zZ
end
end Go.Proofs.YtcilfelgpmfehaaGreat
