/- PVw LView TVf SXt YDh YDp YDm -/
import Derived.Test.YtjeilkenjdnafaaGreatTk
import Derived.Test.YtjeilkenjdnafaaGreatDk00
import Derived.ProofKit
import Derived.OpenShut
import Derived.Lib.SmallJoins
import Derived.HandedShaped
import Derived.SizedLaws
import Derived.ChangeMaps5
import Derived.JoinedCond
import Derived.Test.YtjeilkenjdnafaaGreatDk15
import Derived.Test.YtjeilkenjdnafaaGreatDk27
import Derived.Test.YtjeilkenjdnafaaGreatDk38
import Derived.Test.YtjeilkenjdnafaaGreatDk42
import Derived.Test.YtjeilkenjdnafaaGreatDk43
import Derived.Test.YtjeilkenjdnafaaGreatDk39
set_option maxRecDepth 100000
set_option maxHeartbeats 3200000
namespace Go.Proofs.YtjeilkenjdnafaaGreat
open Go.ChangeShapes Go.WideShapes Go.ChangeAt Go.RowKit Go.Joins

theorem own:ownKnob Tryz.prog.godebug=none:=by kernel_rfl
theorem laidOut:laidOutB Tryz.prog=true:=by kernel_rfl
theorem cellsS:Tryz.prog.cellsOf 65=3:=by kernel_rfl
theorem cellsI:Tryz.prog.cellsOf 3=1:=by kernel_rfl
theorem cellsP:Tryz.prog.cellsOf 26=2:=by kernel_rfl
theorem cellsV:Tryz.prog.cellsOf 23=1:=by kernel_rfl
theorem cellsC:Tryz.prog.cellsOf 24=1:=by kernel_rfl
theorem bulk_pos {H:Type} (d:DataW H):1 <= Rows.uptoBulk d:=by
 cases d with
 | lit l=>cases l <;> simp only [Rows.uptoBulk] <;> omega
 | _=>simp only [Rows.uptoBulk] <;> omega
theorem bulk_len {H:Type}:∀ (l:List (DataW H)),l.length <= Rows.uptoBulkAll l
 | []=>by simp
 | d :: l=>by have:=bulk_len l;have:=bulk_pos d;simp only [Rows.uptoBulkAll,List.length_cons];omega
theorem list2 {α : Type} {l:List α} (h:l.length=2):∃ a b,l=[a,b]:=by
 match l,h with
 | [a,b],_=>exact ⟨a,b,rfl⟩
theorem list3 {α : Type} {l:List α} (h:l.length=3):∃ a b c,l=[a,b,c]:=by
 match l,h with
 | [a,b,c],_=>exact ⟨a,b,c,rfl⟩
theorem open_span {H:Type} {enc:TypeId × Value -> H} {w:World} {base:Nat} {spare:Nat -> Bool} {held:Bool} {fuel:Nat} {cs:List Value} {x:DataW H × List MemPlace}
  (h:DataW.trod enc Tryz.prog w base spare held fuel 65 cs=some x):∃ e:Sn,cs=(SC e).toList:=by
 obtain ⟨xs,m,_,hx,hcl,hxl,hf⟩:=DataW.trod_struct Tryz.underlying65 h;obtain ⟨v0,v1,v2,rfl⟩:=list3 (hcl.trans cellsS);obtain ⟨y0,y1,y2,rfl⟩:=list3 hxl;have t0:=hf 0 _ rfl;have t1:=hf 1 _ rfl;have t2:=hf 2 _ rfl;simp [cellsI] at t0 t1 t2;obtain ⟨r,e0,-,_⟩:=DataW.trod_int Tryz.underlying3 t0;obtain ⟨n,e1,-,_⟩:=DataW.trod_int Tryz.underlying3 t1;obtain ⟨m',e2,-,_⟩:=DataW.trod_int Tryz.underlying3 t2;simp only [List.cons.injEq,and_true] at e0 e1 e2;subst e0 e1 e2;exact ⟨⟨r,n,m'⟩,rfl⟩
theorem viewI {H:Type} {enc:TypeId × Value -> H} {W:World} {fuel:Nat} {v:Value} {x:DataW H × List MemPlace}
  (h:DataW.trod enc Tryz.prog W 0 (fun _=>true) true fuel 23 [v]=some x) (hw:Rows.uptoBulk x.1 <= 1048576):∃ (ao:Option Addr) (n cap:Nat) (Z:List Int),v = .slice ao n cap/\V.Src W ao n cap Z/\n <= 1048576:=by
 rcases DataW.trod_slice Tryz.underlying23 h with h0 | ⟨a,len,cap,elems,rest,n,_,hcs,hx,hb,hl,hm,hlen,hel,hsp,hns⟩
 ·have e:v = .slice none 0 0:=by simpa using h0.1
  exact ⟨none,0,0,[],e,⟨rfl,fun _=>⟨rfl,rfl⟩,fun ad h=>(by cases h)⟩,Nat.zero_le _⟩
 ·subst hx
  have e:v = .slice (some a) len cap:=by simpa using hcs
  simp only [Rows.uptoBulk] at hw;have h1:=bulk_len (elems.map (·.1));simp only [List.length_map] at h1
  have key:∀ i,i < len -> ∃ z:Int,W.cell? (a.add i)=some (.int .i64 z):=by
   intro i hi;have he:=hel i hi;obtain ⟨y,hy⟩:∃ y,elems[i]? = some y:=⟨_,List.getElem?_eq_getElem (by omega)⟩;rw [hy,cellsI,Option.bind_eq_some_iff] at he;obtain ⟨cs',hcs,hy'⟩:=he;obtain ⟨hl',-,hce⟩:=World.cells?_some hcs;obtain ⟨z,rfl,-,_⟩:=DataW.trod_int Tryz.underlying3 hy';have g0:=hce 0 (by omega);rw [add_zero,Nat.mul_one] at g0;exact ⟨z,g0⟩
  refine ⟨some a,len,cap,(List.range len).map fun i=>if h:i < len then Classical.choose (key i h) else 0,e,⟨by simp,fun h=>(by cases h),fun ad h t ht=>?_⟩,by omega⟩;obtain rfl:=Option.some.inj h
  have:((List.range len).map fun i=>if h:i < len then Classical.choose (key i h) else 0).getD t 0=Classical.choose (key t ht):=by simp [List.getD,ht]
  rw [this];exact Classical.choose_spec (key t ht)
theorem viewC {H:Type} {enc:TypeId × Value -> H} {W:World} {fuel:Nat} {v:Value} {x:DataW H × List MemPlace}
  (h:DataW.trod enc Tryz.prog W 0 (fun _=>true) true fuel 24 [v]=some x) (hw:Rows.uptoBulk x.1 <= 1048576):∃ (ao:Option Addr) (n cap:Nat) (L:List Sn),v = .slice ao n cap/\SSrc W ao n cap L/\n <= 1048576:=by
 rcases DataW.trod_slice Tryz.underlying24 h with h0 | ⟨a,len,cap,elems,rest,n,_,hcs,hx,hb,hl,hm,hlen,hel,hsp,hns⟩
 ·have e:v = .slice none 0 0:=by simpa using h0.1
  exact ⟨none,0,0,[],e,SSrc.empty _,Nat.zero_le _⟩
 ·subst hx
  have e:v = .slice (some a) len cap:=by simpa using hcs
  simp only [Rows.uptoBulk] at hw;have h1:=bulk_len (elems.map (·.1));simp only [List.length_map] at h1
  have key:∀ i,i < len -> ∃ e:Sn,SnAt W (a.add (i * 3)) e:=by
   intro i hi;have he:=hel i hi;obtain ⟨y,hy⟩:∃ y,elems[i]? = some y:=⟨_,List.getElem?_eq_getElem (by omega)⟩;rw [hy,cellsS,Option.bind_eq_some_iff] at he;obtain ⟨cs',hcs,hy'⟩:=he;obtain ⟨_,-,hce⟩:=World.cells?_some hcs;obtain ⟨e,rfl⟩:=open_span hy';have g0:=hce 0 (by omega);rw [add_zero] at g0;exact ⟨e,⟨g0,hce 1 (by omega),hce 2 (by omega)⟩⟩
  refine ⟨some a,len,cap,(List.range len).map fun i=>if h:i < len then Classical.choose (key i h) else sn0,e,⟨by simp,fun h=>(by cases h),fun ad h t ht=>?_,by omega,hl⟩,by omega⟩;obtain rfl:=Option.some.inj h
  have:((List.range len).map fun i=>if h:i < len then Classical.choose (key i h) else sn0).getD t sn0=Classical.choose (key t ht):=by simp [List.getD,ht]
  rw [this];exact Classical.choose_spec (key t ht)
theorem viewP {H:Type} {enc:TypeId × Value -> H} {W:World} {fuel:Nat} {cs:List Value} {x:DataW H × List MemPlace}
  (h:DataW.trod enc Tryz.prog W 0 (fun _=>true) true fuel 26 cs=some x) (hw:Rows.uptoBulk x.1 <= 1048576):∃ p:Pv,cs=[.slice p.vo p.vn p.vc,.slice p.co p.cn p.cc]/\PSrc W p/\p.P.cloud.length <= 1048576:=by
 obtain ⟨xs,m,_,hx,hcl,hxl,hf⟩:=DataW.trod_struct Tryz.underlying26 h;obtain ⟨v0,v1,rfl⟩:=list2 (hcl.trans cellsP);obtain ⟨y0,y1,rfl⟩:=list2 hxl;have t0:=hf 0 _ rfl;have t1:=hf 1 _ rfl;simp [cellsV,cellsC] at t0 t1;subst hx;simp only [Rows.uptoBulk,List.map_cons,List.map_nil,Rows.uptoBulkAll] at hw;obtain ⟨a0,l0,c0,Z,rfl,S0,g0⟩:=viewI t0 (by omega);obtain ⟨a1,l1,c1,L,rfl,S1,g1⟩:=viewC t1 (by omega);exact ⟨⟨a0,l0,c0,a1,l1,c1,⟨Z,L⟩⟩,rfl,⟨S0,S1,by show l0 <= _;omega⟩,by show L.length <= _;rw [S1.len];exact g1⟩
end Go.Proofs.YtjeilkenjdnafaaGreat
namespace Go.Proofs.YtjeilkenjdnafaaGreat.K
open Go.ChangeShapes Go.WideShapes Go.ChangeAt Go.RowKit Go.Joins

theorem own:ownKnob Tryz.prog.godebug=none:=by kernel_rfl
theorem cells28:Tryz.prog.cellsOf 57=4:=by kernel_rfl
theorem cells26:Tryz.prog.cellsOf 55=2:=by kernel_rfl
theorem cells3:Tryz.prog.cellsOf 3=1:=by kernel_rfl
theorem cells9:Tryz.prog.cellsOf 9=1:=by kernel_rfl
theorem list2 {α : Type} {l:List α} (h:l.length=2):∃ a b,l=[a,b]:=by
 match l,h with
 | [a,b],_=>exact ⟨a,b,rfl⟩
theorem list3 {α : Type} {l:List α} (h:l.length=3):∃ a b c,l=[a,b,c]:=by
 match l,h with
 | [a,b,c],_=>exact ⟨a,b,c,rfl⟩
theorem list4 {α : Type} {l:List α} (h:l.length=4):∃ a b c d,l=[a,b,c,d]:=by
 match l,h with
 | [a,b,c,d],_=>exact ⟨a,b,c,d,rfl⟩
theorem open_entry {H:Type} {enc:TypeId × Value -> H} {w:World} {base:Nat} {spare:Nat -> Bool} {held:Bool} {fuel:Nat} {cs:List Value} {x:DataW H × List MemPlace}
  (h:DataW.trod enc Tryz.prog w base spare held fuel 57 cs=some x):∃ e:En,cs=(EC e).toList/\e.sku.size <= maxLen:=by
 obtain ⟨xs,m,_,hx,hcl,hxl,hf⟩:=DataW.trod_struct Tryz.underlying57 h;obtain ⟨v0,v1,v2,v3,rfl⟩:=list4 (hcl.trans cells28);obtain ⟨y0,y1,y2,rfl⟩:=list3 hxl;have t0:=hf 0 _ rfl;have t1:=hf 1 _ rfl;have t2:=hf 2 _ rfl;simp [cells3,cells9,cells26] at t0 t1 t2;obtain ⟨xs',m',_,hx',hcl',hxl',hf'⟩:=DataW.trod_struct Tryz.underlying55 t0;obtain ⟨z0,z1,rfl⟩:=list2 hxl';have s0:=hf' 0 _ rfl;have s1:=hf' 1 _ rfl;simp [cells3] at s0 s1;obtain ⟨r,e0,-,_⟩:=DataW.trod_int Tryz.underlying3 s0;obtain ⟨n,e1,-,_⟩:=DataW.trod_int Tryz.underlying3 s1;obtain ⟨s,e2,-,w2⟩:=DataW.trod_string Tryz.underlying9 t1;obtain ⟨q,e3,-,_⟩:=DataW.trod_int Tryz.underlying3 t2;simp only [List.cons.injEq,and_true] at e0 e1 e2 e3;subst e0 e1 e2 e3;exact ⟨⟨r,n,s,q⟩,rfl,w2⟩
end Go.Proofs.YtjeilkenjdnafaaGreat.K
namespace Go.Proofs.YtjeilkenjdnafaaGreat
section
open Go.ChangeShapes Go.WideShapes Go.ChangeAt Go.RowKit Go.Joins

def RSmT (L:List Rc):Prop:=L.length <= 209715/\∀ r∈L,r.p.P.cloud.length <= 1048576
structure FcU (w:World) (f:Fc):Prop where
 ok:FcOk w f
 row:FcR f
 sm:RSmT f.rs
 an:f.an <= 1048576
theorem FcU.rn {w:World} {f:Fc} (h:FcU w f):f.rn <= 209715:=by rw [<- h.ok.rs.len];exact h.sm.1
theorem cellsRe:Tryz.prog.cellsOf 83=3:=by kernel_rfl
theorem cellsSk:Tryz.prog.cellsOf 9=1:=by kernel_rfl
theorem cellsEs:Tryz.prog.cellsOf 22=1:=by kernel_rfl
theorem cellsRs:Tryz.prog.cellsOf 27=1:=by kernel_rfl
theorem cellsFa:Tryz.prog.cellsOf 29=4:=by kernel_rfl
theorem bulk_at {H:Type}:∀ (l:List (DataW H)) (d:DataW H),d∈l -> Rows.uptoBulk d <= Rows.uptoBulkAll l
 | e :: l,d,h=>by
  simp only [Rows.uptoBulkAll];rcases List.mem_cons.1 h with rfl | h
  ·omega
  ·have:=bulk_at l d h;omega
theorem bulk_five {H:Type}:∀ (l:List (DataW H)),(∀ d∈l,5 <= Rows.uptoBulk d) -> 5 * l.length <= Rows.uptoBulkAll l
 | [],_=>by simp
 | d :: l,h=>by
  have h1:=bulk_five l (fun e he=>h e (List.mem_cons_of_mem _ he));have h2:=h d List.mem_cons_self;simp only [Rows.uptoBulkAll,List.length_cons];omega
theorem viewEu {H:Type} {enc:TypeId × Value -> H} {W:World} {fuel:Nat} {v:Value} {x:DataW H × List MemPlace}
  (h:DataW.trod enc Tryz.prog W 0 (fun _=>true) true fuel 22 [v]=some x) (hw:Rows.uptoBulk x.1 <= 1048576):∃ (ao:Option Addr) (n cap:Nat) (L:List K.En),v = .slice ao n cap/\K.ESrc W ao n cap L/\n <= 1048576:=by
 rcases DataW.trod_slice Tryz.underlying22 h with h0 | ⟨a,len,cap,elems,rest,n,_,hcs,hx,hb,hl,hm,hlen,hel,hsp,hns⟩
 ·have e:v = .slice none 0 0:=by simpa using h0.1
  exact ⟨none,0,0,[],e,⟨rfl,fun _=>⟨rfl,rfl⟩,fun ad h=>(by cases h),fun e he=>(by cases he),Nat.zero_le _⟩,Nat.zero_le _⟩
 ·subst hx
  have e:v = .slice (some a) len cap:=by simpa using hcs
  simp only [Rows.uptoBulk] at hw;have h1:=bulk_len (elems.map (·.1));simp only [List.length_map] at h1
  have key:∀ i,i < len -> ∃ e:K.En,K.EnAt W (a.add (i * 4)) e/\e.sku.size <= maxLen:=by
   intro i hi;have he:=hel i hi;obtain ⟨y,hy⟩:∃ y,elems[i]? = some y:=⟨_,List.getElem?_eq_getElem (by omega)⟩;rw [hy,K.cells28,Option.bind_eq_some_iff] at he;obtain ⟨cs',hcs,hy'⟩:=he;obtain ⟨_,-,hce⟩:=World.cells?_some hcs;obtain ⟨e,rfl,hs⟩:=K.open_entry hy';have g0:=hce 0 (by omega);rw [add_zero] at g0;exact ⟨e,⟨g0,hce 1 (by omega),hce 2 (by omega),hce 3 (by omega)⟩,hs⟩
  refine ⟨some a,len,cap,(List.range len).map fun i=>if h:i < len then Classical.choose (key i h) else K.en0,e,⟨by simp,fun h=>(by cases h),fun ad h t ht=>?_,fun e he=>?_,by omega⟩,by omega⟩
  ·obtain rfl:=Option.some.inj h
   have:((List.range len).map fun i=>if h:i < len then Classical.choose (key i h) else K.en0).getD t K.en0=Classical.choose (key t ht):=by simp [List.getD,ht]
   rw [this];exact (Classical.choose_spec (key t ht)).1
  ·simp only [List.mem_map,List.mem_range] at he;obtain ⟨i,hi,rfl⟩:=he;rw [dif_pos hi];exact (Classical.choose_spec (key i hi)).2
theorem past_bulk {H:Type} {enc:TypeId × Value -> H} {W:World} {fuel:Nat} {cs:List Value} {x:DataW H × List MemPlace}
  (h:DataW.trod enc Tryz.prog W 0 (fun _=>true) true fuel 26 cs=some x):3 <= Rows.uptoBulk x.1:=by
 obtain ⟨xs,m,_,hx,hcl,hxl,hf⟩:=DataW.trod_struct Tryz.underlying26 h;obtain ⟨y0,y1,rfl⟩:=list2 hxl;subst hx;have h0:=bulk_pos y0.1;have h1:=bulk_pos y1.1;simp only [Rows.uptoBulk,List.map_cons,List.map_nil,Rows.uptoBulkAll];omega
theorem open_recordU {H:Type} {enc:TypeId × Value -> H} {W:World} {fuel:Nat} {cs:List Value} {x:DataW H × List MemPlace}
  (h:DataW.trod enc Tryz.prog W 0 (fun _=>true) true fuel 83 cs=some x):5 <= Rows.uptoBulk x.1/\(Rows.uptoBulk x.1 <= 1048576 -> ∃ r:Rc,cs=(ReC (mkR r)).toList/\RcOk W r/\r.p.P.cloud.length <= 1048576):=by
 obtain ⟨xs,m,_,hx,hcl,hxl,hf⟩:=DataW.trod_struct Tryz.underlying83 h;obtain ⟨v0,v1,v2,rfl⟩:=list3 (hcl.trans cellsRe);obtain ⟨y0,y1,rfl⟩:=list2 hxl;have t0:=hf 0 _ rfl;have t1:=hf 1 _ rfl;simp [cellsP,cellsSk] at t0 t1;subst hx;simp only [Rows.uptoBulk,List.map_cons,List.map_nil,Rows.uptoBulkAll];have b0:=bulk_pos y0.1;have b1:=past_bulk t1;refine ⟨by omega,fun hw=>?_⟩;obtain ⟨s,e0,-,hs⟩:=DataW.trod_string Tryz.underlying9 t0;obtain ⟨p,ep,Sp,hl⟩:=viewP t1 (by omega);simp only [List.cons.injEq,and_true] at e0 ep;obtain ⟨rfl,rfl⟩:=ep;subst e0;exact ⟨⟨s,p⟩,rfl,⟨Sp,hs⟩,hl⟩
theorem viewRT {H:Type} {enc:TypeId × Value -> H} {W:World} {fuel:Nat} {v:Value} {x:DataW H × List MemPlace}
  (h:DataW.trod enc Tryz.prog W 0 (fun _=>true) true fuel 27 [v]=some x) (hw:Rows.uptoBulk x.1 <= 1048576):∃ (ao:Option Addr) (n cap:Nat) (L:List Rc),v = .slice ao n cap/\RcT W ao n cap L/\RSmT L:=by
 rcases DataW.trod_slice Tryz.underlying27 h with h0 | ⟨a,len,cap,elems,rest,n,_,hcs,hx,hb,hl,hm,hlen,hel,hsp,hns⟩
 ·have e:v = .slice none 0 0:=by simpa using h0.1
  exact ⟨none,0,0,[],e,⟨RcS.empty _,Nat.le_refl _,fun _=>rfl⟩,Nat.zero_le _,fun r hr=>by cases hr⟩
 ·subst hx
  have e:v = .slice (some a) len cap:=by simpa using hcs
  simp only [Rows.uptoBulk] at hw
  have op:∀ i (hi:i < elems.length),i < len/\∃ cs',(5 <= Rows.uptoBulk elems[i].1/\(Rows.uptoBulk elems[i].1 <= 1048576 -> ∃ r:Rc,cs'=(ReC (mkR r)).toList/\RcOk W r/\r.p.P.cloud.length <= 1048576))/\(∀ j,j < 3 -> W.cell? ((a.add (i * 3)).add j)=cs'[j]?):=by
   intro i hi
   have hi':i < len:=by omega
   have he:=hel i hi';rw [List.getElem?_eq_getElem hi,cellsRe,Option.bind_eq_some_iff] at he;obtain ⟨cs',hcs,hy'⟩:=he;obtain ⟨_,-,hce⟩:=World.cells?_some hcs;exact ⟨hi',cs',open_recordU hy',fun j hj=>hce j hj⟩
  have h5:=bulk_five (elems.map (·.1)) (fun d hd=>by
   obtain ⟨y,hy,rfl⟩:=List.mem_map.1 hd;obtain ⟨i,hi,rfl⟩:=List.getElem_of_mem hy;obtain ⟨-,_,h,-⟩:=op i hi
   exact h.1)
  simp only [List.length_map] at h5
  have key:∀ i,i < len -> ∃ r:Rc,ReAt W (a.add (i * 3)) (mkR r)/\RcOk W r/\r.p.P.cloud.length <= 1048576:=by
   intro i hi
   have hi':i < elems.length:=by omega
   obtain ⟨-,cs',h,hce⟩:=op i hi';obtain ⟨r,rfl,hr,hl2⟩:=h.2 (by have:=bulk_at (elems.map (·.1)) elems[i].1 (List.mem_map_of_mem (f:=(·.1)) (List.getElem_mem hi'));omega);have g0:=hce 0 (by omega);rw [add_zero] at g0;exact ⟨r,⟨g0,hce 1 (by omega),hce 2 (by omega)⟩,hr,hl2⟩
  refine ⟨some a,len,cap,(List.range len).map fun i=>if h:i < len then Classical.choose (key i h) else rc0,e,⟨⟨by simp,(fun h=>by cases h),fun ad h t ht=>?_,fun r hr=>?_,by omega⟩,hl,fun h=>by cases h⟩,by simp;omega,fun r hr=>?_⟩
  ·obtain rfl:=Option.some.inj h
   have:((List.range len).map fun i=>if h:i < len then Classical.choose (key i h) else rc0).getD t rc0=Classical.choose (key t ht):=by simp [List.getD,ht]
   rw [this];exact (Classical.choose_spec (key t ht)).1
  ·simp only [List.mem_map,List.mem_range] at hr;obtain ⟨i,hi,rfl⟩:=hr;rw [dif_pos hi];exact (Classical.choose_spec (key i hi)).2.1
  ·simp only [List.mem_map,List.mem_range] at hr;obtain ⟨i,hi,rfl⟩:=hr;rw [dif_pos hi];exact (Classical.choose_spec (key i hi)).2.2
theorem open_factsU {H:Type} {enc:TypeId × Value -> H} {W:World} {fuel:Nat} {cs:List Value} {x:DataW H × List MemPlace}
  (h:DataW.trod enc Tryz.prog W 0 (fun _=>true) true fuel 29 cs=some x) (hw:Rows.uptoBulk x.1 <= 1048576):∃ f:Fc,cs=(FaC (mkF f)).toList/\FcU W f:=by
 obtain ⟨xs,m,_,hx,hcl,hxl,hf⟩:=DataW.trod_struct Tryz.underlying29 h;obtain ⟨v0,v1,v2,v3,rfl⟩:=K.list4 (hcl.trans cellsFa);obtain ⟨y0,y1,y2,rfl⟩:=list3 hxl;have t0:=hf 0 _ rfl;have t1:=hf 1 _ rfl;have t2:=hf 2 _ rfl;simp [cellsP,cellsEs,cellsRs] at t0 t1 t2;subst hx;simp only [Rows.uptoBulk,List.map_cons,List.map_nil,Rows.uptoBulkAll] at hw;obtain ⟨ro,rn,rc,R,rfl,Sr,r1⟩:=viewRT t2 (by omega);obtain ⟨ao,an,ac,A,rfl,Sa,a1⟩:=viewEu t0 (by omega);obtain ⟨p,ep,Sp,-⟩:=viewP t1 (by omega);simp only [List.cons.injEq,and_true] at ep;obtain ⟨rfl,rfl⟩:=ep;exact ⟨⟨ao,an,ac,A,p,ro,rn,rc,R⟩,rfl,⟨Sa,Sp,Sr.src⟩,⟨Sr.room,Sr.nil⟩,r1,a1⟩
end
section
open Go.ChangeShapes Go.WideShapes Go.ChangeAt Go.RowKit Go.Joins
theorem cellsSw:Tryz.prog.cellsOf 31=4:=by kernel_rfl
theorem open_swotU {H:Type} {enc:TypeId × Value -> H} {W:World} {fuel:Nat} {cs:List Value} {x:DataW H × List MemPlace}
  (h:DataW.trod enc Tryz.prog W 0 (fun _=>true) true fuel 31 cs=some x) (hw:Rows.uptoBulk x.1 <= 1048576):∃ f:Fc,cs=(FaC (mkF f)).toList/\FcU W f:=by
 obtain ⟨xs,m,_,hx,hcl,hxl,hf⟩:=DataW.trod_struct Tryz.underlying31 h;obtain ⟨v0,v1,v2,v3,rfl⟩:=K.list4 (hcl.trans cellsSw);obtain ⟨y0,y1,y2,rfl⟩:=list3 hxl;have t0:=hf 0 _ rfl;have t1:=hf 1 _ rfl;have t2:=hf 2 _ rfl;simp [cellsP,cellsEs,cellsRs] at t0 t1 t2;subst hx;simp only [Rows.uptoBulk,List.map_cons,List.map_nil,Rows.uptoBulkAll] at hw;obtain ⟨ro,rn,rc,R,rfl,Sr,r1⟩:=viewRT t2 (by omega);obtain ⟨ao,an,ac,A,rfl,Sa,a1⟩:=viewEu t0 (by omega);obtain ⟨p,ep,Sp,-⟩:=viewP t1 (by omega);simp only [List.cons.injEq,and_true] at ep;obtain ⟨rfl,rfl⟩:=ep;exact ⟨⟨ao,an,ac,A,p,ro,rn,rc,R⟩,rfl,⟨Sa,Sp,Sr.src⟩,⟨Sr.room,Sr.nil⟩,r1,a1⟩
theorem FcU.b {w:World} {s:Fc} (h:FcU w s):SwB 1 w s:=⟨h.ok,h.row,by have:=h.rn;omega,by have:=h.an;omega,h.sm.2⟩
end
section
open Go.RowKit
theorem ls_recs {s l:Fc} {d:Dg} (fs:FormS s) (h:LsD s d l):plR l.rs=plR s.rs:=by
 rw [h.2.2.2.2];refine List.filter_eq_self.2 fun y hy=>?_;obtain ⟨r,hr,rfl⟩:=List.mem_map.1 hy;exact waitB_yes (fs.2.2.1 r hr)
theorem ls_sub {s l:Fc} {d:Dg} (h:LsD s d l) {e:K.En} (he:e∈l.es):e∈s.es/\inB d.h.P e=false:=by
 rw [h.1,List.mem_filter] at he;refine ⟨he.1,?_⟩;have h2:=he.2;unfold pkB at h2;simpa using h2
theorem ls_past {s l:Fc} {d:Dg} (fs:FormS s) (h:LsD s d l) {e:K.En} (he:inB l.p.P e=true):inB s.p.P e=true:=by
 rcases (h.2.2.1 e).1 he with ⟨-,x,hx,hd⟩ | ⟨⟨h1,-⟩,-⟩
 ·rw [<- dot_inB hd];exact fs.2.1 x (ls_sub h hx).1
 ·exact h1
attribute [local go_sem ↓] ldSw_eq stSw_eq ldDi_eq stDi_eq
attribute [local go_sem] cells_FaV FaC_size zero_FaZ cells_DiV DiC_size
end
section
open Go.RowKit
theorem srt_of {f:Fc} (hr:f.rs.length=f.rn) (ff:FormF f):(∀ r∈f.rs,RecOk r)/\Srt ck (plR f.rs):=okR_iff.1 (by rw [hr];exact ff.2.2)
theorem lf_form {w:World} {f l:Fc} {d:Dg} (hL:FcOk w l) (hl:f.es.length=f.an) (hr:f.rs.length=f.rn) (ff:FormF f) (h:LfD f d l):FormF l:=by
 obtain ⟨h1,H,-,h3,-,h5⟩:=h;have hs:=srt_of hr ff;refine ⟨(chk_okS hL.es.1).1 ?_,h3,?_⟩
 ·rw [h1];unfold liveF;exact chk_filter (chk_filter ((chk_okS hl).2 ff.1) _) _
 ·rw [<- hL.rs.len];refine okR_iff.2 ⟨h5.1,?_⟩;rw [h5.2];exact List.Pairwise.filter _ hs.2
theorem pic_lack {f s l m x:Fc} {d:Dg} (_:FormF f) (hs:StD f s) (fs:FormS s) (hl:LfD f d l) (hm:LsD s d m) (hx:StD l x):EqS x m:=by
 obtain ⟨l1,H,l2,l3,l4,l5⟩:=hl;have eH:H=s.p.P:=l2.one hs.2.1;subst eH;have es:s.es=liveF f:=hs.1
 have el:m.es=l.es:=by rw [hm.1,l1,es]
 have e1:x.es=l.es:=by
  rw [hx.1];refine List.filter_eq_self.2 fun e he=>?_
  have h1:e∈liveF f:=by rw [l1,List.mem_filter] at he;exact he.1
  have h2:freeB f.rs e=true:=by
   unfold liveF at h1;rw [List.mem_filter] at h1;have h4:=h1.2;unfold lvB at h4;rw [Bool.and_eq_true] at h4;exact h4.2
  have h3:inB l.p.P e=false:=by
   rw [Bool.eq_false_iff];intro k;exact ((l4 e).1 k).1.2 ⟨e,h1,rfl⟩
  have h4:freeB l.rs e=true:=by
   rw [free_ab] at h2 ⊢;intro r hr;rw [l5.2,List.mem_filter] at hr;exact h2 r hr.1
  unfold lvB;rw [h3,h4];rfl
 have eP:x.p.P=m.p.P:=by
  refine pst_ext hx.2.1.1 hm.2.1 fun e=>?_;rw [heard_inB hx.2.1,hm.2.2.1 e,l4 e,el,es]
 refine ⟨e1.trans el.symm,eP,?_⟩
 have eR:plR m.rs=plR l.rs:=by rw [ls_recs fs hm,hs.2.2.2,l5.2]
 rw [eR,hx.2.2.2];refine List.filter_eq_self.2 fun y hy=>waitB_yes fun k=>?_;rw [l5.2,List.mem_filter] at hy;have h1:wiP y.2 s.p.P:=wi_inB.2 fun e he=>ls_past fs hm (by rw [<- eP];exact wi_inB.1 k e he);have:=hy.2;rw [waitB_no h1] at this
 cases this
attribute [local go_sem ↓] ldFa_eq stFa_eq ldSw_eq stSw_eq ldDi_eq stDi_eq
attribute [local go_sem] cells_FaV FaC_size zero_FaZ cells_DiV DiC_size
end
section
open Go.RowKit
def RfE (w w':World) (x:Ending) (f:Fc) (d:Dg):Prop:=∃ l er,x = .returned (.tuple #[FaV (mkF l),.int .i64 er])/\FcOk w' l/\Below w.heap.size w w'/\LfR f d l er
def RsR (s:Fc) (d:Dg) (l:Fc) (er:Int):Prop:=(¬ (FormS s/\FormD d.h.P d.l.P)/\er=1/\l=fz0)∨((FormS s/\FormD d.h.P d.l.P)/\er=0/\∃ q l0,ExQ s q/\LfD (exf s q) d l0/\StD l0 l)
def RsE (w w':World) (x:Ending) (s:Fc) (d:Dg):Prop:=∃ l er,x = .returned (.tuple #[FaV (mkF l),.int .i64 er])/\FcOk w' l/\Below w.heap.size w w'/\RsR s d l er
theorem lf_one {f l m:Fc} {d:Dg} (h:LfD f d l) (k:LfD f d m):EqS l m:=by
 obtain ⟨h1,H,h2,h3,h4,h5⟩:=h;obtain ⟨k1,K,k2,k3,k4,k5⟩:=k;obtain rfl:H=K:=h2.one k2;exact ⟨h1.trans k1.symm,pst_ext h3 k3 fun e=>(h4 e).trans (k4 e).symm,h5.2.trans k5.2.symm⟩
theorem lfr_one {f l m:Fc} {d:Dg} {x y:Int} (h:LfR f d l x) (k:LfR f d m y):x=y/\EqS l m:=by
 rcases h with ⟨h1,rfl,rfl⟩ | ⟨h1,rfl,h2⟩ <;> rcases k with ⟨k1,rfl,rfl⟩ | ⟨k1,rfl,k2⟩
 ·exact ⟨rfl,rfl,rfl,rfl⟩
 ·exact absurd k1 h1
 ·exact absurd h1 k1
 ·exact ⟨rfl,lf_one h2 k2⟩
theorem lsr_one {s l m:Fc} {d:Dg} {x y:Int} (hr:s.rs.length=s.rn) (h:LsR s d l x) (k:RsR s d m y):x=y/\EqS l m:=by
 rcases h with ⟨h1,rfl,rfl⟩ | ⟨h1,rfl,h2⟩ <;> rcases k with ⟨k1,rfl,rfl⟩ | ⟨k1,rfl,q,l0,xq,k2,k3⟩
 ·exact ⟨rfl,rfl,rfl,rfl⟩
 ·exact absurd k1 h1
 ·exact absurd h1 k1
 ·have hs:StD (exf s q) s:=by
   obtain ⟨-,H,k4,-⟩:=k2;obtain rfl:H=s.p.P:=heard_exf h1.1 xq k4;refine ⟨(live_exf h1.1 xq).symm,k4,(srt_of (f:=exf s q) hr (exf_form h1.1 xq)).1,?_⟩
   exact (List.filter_eq_self.2 fun y hy=>by
    obtain ⟨r,hr,rfl⟩:=List.mem_map.1 hy
    exact waitB_yes (h1.1.2.2.1 r hr)).symm
  obtain ⟨e1,e2,e3⟩:=pic_lack (exf_form h1.1 xq) hs h1.1 k2 h2 k3;exact ⟨rfl,e1.symm,e2.symm,e3.symm⟩
attribute [local go_sem ↓] ldP_eq stP_eq ldDi_eq stDi_eq ldFa_eq stFa_eq bldF_eq ldSw_eq stSw_eq bldS_eq
attribute [local go_sem] cells_PV PC_size zero_PC cells_DiV DiC_size cells_FaV FaC_size zero_FaZ run_bldF0 run_bldS0 run_bldS
theorem refLackFacts14_any (f:Fc) (d:Dg) (w:World) (hF:FcOk w f) (hd:DgOk w d):Calls Tryz.prog 17 #[FaV (mkF f),DiV (mkD d)] w fun e w'=>RfE w w' e f d:=by
 obtain ⟨wk,hwk,HX,HD,HZ,HBK⟩:=boxFDF w f d;obtain ⟨G,hG0⟩:∃ G,w.heap.size=G:=⟨_,rfl⟩;rw [hG0] at HX HD HZ;have HGs:Hid (w.heap.size=G):=hG0;have HF:=hide (hF.below HBK.out);have HO:=hide (hd.below HBK.out);have HBad:Hid (∀ W,Below wk.heap.size wk W -> ¬ (FormF f/\FormD d.h.P d.l.P) -> RfE w (W.setRow (G+2) (FaC (mkF fz0))) (.returned (.tuple #[FaV (mkF fz0),.int .i64 1])) f d):=fun W h k=>⟨fz0,1,rfl,fz0_ok _,below_setRow (HBK.out.trans (h.mono HBK.out.size)) (by rw [HGs.out];omega),.inl ⟨k,rfl,rfl⟩⟩;clear hF hd;have l0:=run_ldFa HX.out;go_enter Tryz.func17,Tryz.ntmps17;go_wp2_with fail;clear hwk hG0 l0;refine (refFacts_any f _ HF.out).mono ?_;rintro e w3 ⟨v,rfl,hv,b3⟩;have HB3:=hide b3;clear b3
 cases v with
 | false =>
  have A3:=HZ.out.below HB3.out;have st:=run_stFa (m':=mkF fz0) A3;have HE1:Hid (FaBox (w3.setRow (G+2) (FaC (mkF fz0))) (G+2) (mkF fz0)):=A3.setRow;have HE:=hide (HBad.out _ HB3.out fun h=>(by have:=hv.2 h.1;cases this));clear hv A3;go_wp2_with fail;clear st;refine bodyPost_ret (res2Fb rfl rfl rfl HE1.out) rfl ?_;exact HE.out
 | true =>
  have HFo:=hide (hv.1 rfl);have l0:=run_ldDi (HD.out.below HB3.out);clear hv;go_wp2_with fail;clear l0;refine (rinForm14_any d _ (HO.out.below HB3.out)).mono ?_;rintro e w4 ⟨v,rfl,hv,b4⟩;have HB4:=wTr HB3 b4;clear b4
  cases v with
  | false =>
   have A3:=HZ.out.below HB4.out;have st:=run_stFa (m':=mkF fz0) A3;have HE1:Hid (FaBox (w4.setRow (G+2) (FaC (mkF fz0))) (G+2) (mkF fz0)):=A3.setRow;have HE:=hide (HBad.out _ HB4.out fun h=>(by have:=hv.2 h.2;cases this));clear hv A3;go_wp2_with fail;clear st;refine bodyPost_ret (res2Fb rfl rfl rfl HE1.out) rfl ?_;exact HE.out
  | true =>
   have HFd:=hide (hv.1 rfl);have l0:=run_ldFa (HX.out.below HB4.out);have l1:=run_ldDi (HD.out.below HB4.out);clear hv;go_wp2_with fail;clear l0 l1;refine (refLack14_any f d _ (HF.out.below HB4.out) HFo.out (HO.out.below HB4.out)).mono ?_;rintro e w5 ⟨l,rfl,Fl,b5,hL,hR⟩;have HB5:=wTr HB4 b5;have A5:=HZ.out.below HB5.out;have st:=run_stFa (m':=mkF l) A5;have HE1:Hid (FaBox (w5.setRow (G+2) (FaC (mkF l))) (G+2) (mkF l)):=A5.setRow;have HE:Hid (RfE w (w5.setRow (G+2) (FaC (mkF l))) (.returned (.tuple #[FaV (mkF l),.int .i64 0])) f d):=⟨l,0,rfl,Fl.offF A5 _,below_setRow (HBK.out.trans (HB5.out.mono HBK.out.size)) (by rw [HGs.out];omega),.inr ⟨⟨HFo.out,HFd.out⟩,rfl,hL⟩⟩;clear Fl b5 A5 hL hR;go_wp2_with fail;clear st;refine bodyPost_ret (res2Fb rfl rfl rfl HE1.out) rfl ?_;exact HE.out
theorem refLackSwot14_any (s:Fc) (d:Dg) (w:World) (hF:FcOk w s) (hd:DgOk w d):Calls Tryz.prog 20 #[FaV (mkF s),DiV (mkD d)] w fun e w'=>RsE w w' e s d:=by
 obtain ⟨wk,hwk,HX,HD,HZ,HBK⟩:=boxSDS w s d;obtain ⟨G,hG0⟩:∃ G,w.heap.size=G:=⟨_,rfl⟩;rw [hG0] at HX HD HZ;have HGs:Hid (w.heap.size=G):=hG0;have HF:=hide (hF.below HBK.out);have HO:=hide (hd.below HBK.out);have HBad:Hid (∀ W,Below wk.heap.size wk W -> ¬ (FormS s/\FormD d.h.P d.l.P) -> RsE w (W.setRow (G+2) (FaC (mkF fz0))) (.returned (.tuple #[FaV (mkF fz0),.int .i64 1])) s d):=fun W h k=>⟨fz0,1,rfl,fz0_ok _,below_setRow (HBK.out.trans (h.mono HBK.out.size)) (by rw [HGs.out];omega),.inl ⟨k,rfl,rfl⟩⟩;clear hF hd;have l0:=run_ldSw HX.out;go_enter Tryz.func20,Tryz.ntmps20;go_wp2_with fail;clear hwk hG0 l0;refine (refInForm_any s _ HF.out).mono ?_;rintro e w3 ⟨v,rfl,hv,b3⟩;have HB3:=hide b3;clear b3
 cases v with
 | false =>
  have A3:=HZ.out.below HB3.out;have st:=run_stSw (m':=mkF fz0) A3;have HE1:Hid (SwBox (w3.setRow (G+2) (FaC (mkF fz0))) (G+2) (mkF fz0)):=A3.setRow;have HE:=hide (HBad.out _ HB3.out fun h=>(by have:=hv.2 h.1;cases this));clear hv A3;go_wp2_with fail;clear st;refine bodyPost_ret (res2Sw rfl rfl rfl HE1.out) rfl ?_;exact HE.out
 | true =>
  have HFo:=hide (hv.1 rfl);have l0:=run_ldDi (HD.out.below HB3.out);clear hv;go_wp2_with fail;clear l0;refine (rinForm14_any d _ (HO.out.below HB3.out)).mono ?_;rintro e w4 ⟨v,rfl,hv,b4⟩;have HB4:=wTr HB3 b4;clear b4
  cases v with
  | false =>
   have A3:=HZ.out.below HB4.out;have st:=run_stSw (m':=mkF fz0) A3;have HE1:Hid (SwBox (w4.setRow (G+2) (FaC (mkF fz0))) (G+2) (mkF fz0)):=A3.setRow;have HE:=hide (HBad.out _ HB4.out fun h=>(by have:=hv.2 h.2;cases this));clear hv A3;go_wp2_with fail;clear st;refine bodyPost_ret (res2Sw rfl rfl rfl HE1.out) rfl ?_;exact HE.out
  | true =>
   have HFd:=hide (hv.1 rfl);have HSt:Hid (∀ W,Below wk.heap.size wk W -> (ldSw (.pointer (some ⟨G,0,none⟩))).run Tryz.prog W = .ok (FaV (mkF s)) W/\(ldDi (.pointer (some ⟨G+1,0,none⟩))).run Tryz.prog W = .ok (DiV (mkD d)) W):=fun W h=>⟨run_ldSw (HX.out.below h),run_ldDi (HD.out.below h)⟩;clear hv;go_upto_region 3 with fail;refine wp_region_held_drew (S:=fun W=>(ldSw (.pointer (some ⟨G,0,none⟩))).run Tryz.prog W = .ok (FaV (mkF s)) W/\(ldDi (.pointer (some ⟨G+1,0,none⟩))).run Tryz.prog W = .ok (DiV (mkD d)) W) (by kernel_rfl) (HSt.out _ (HB4.out.trans ((below_drew1 w4).mono HB4.out.size))) (fun hHeld=>?_);refine wU 0 ?_;refine wU 2 ?_;refine wpAnyH_ready (rs:=[1]) (by kernel_rfl) (by simp) (.cons rfl (fun K hK=>?_) .nil);go_simp;go_wp2_with fail;refine (refExpand_any s _ (HF.out.below (HB4.out.trans ((below_drew1 w4).mono HB4.out.size)))).mono ?_
   rintro e w5 ⟨q,rfl,Fq,b5,xq⟩;have Fx:FcOk w5 (exf s q):=Fq;have xx:ExQ s q:=xq;have HFx:=hide Fx;have HXq:=hide xx;have HB5:=hide ((HB4.out.trans ((below_drew1 w4).mono HB4.out.size)).trans (b5.mono (HB4.out.trans ((below_drew1 w4).mono HB4.out.size)).size));clear Fq b5 xq Fx xx;refine hK.out _ _ (HSt.out _ HB5.out) (fun hHeld=>?_);clear hK K;refine wpAnyH_ready (rs:=[3]) (by kernel_rfl) (by simp) (.cons rfl (fun K hK=>?_) .nil);go_simp;go_wp2_with fail;refine (refLack14_any (exf s q) d _ HFx.out (exf_form HFo.out HXq.out) (HO.out.below HB5.out)).mono ?_;rintro e w6 ⟨l0,rfl,F0,b6,hL0,hR0⟩;have HF0:=hide F0;have HL0:=hide hL0;have HFo0:Hid (FormF l0):=lf_form F0 HFx.out.es.1 HFx.out.rs.len (exf_form HFo.out HXq.out) hL0;have HB6:=wTr HB5 b6;clear F0 b6 hL0 hR0;refine hK.out _ _ (HSt.out _ HB6.out) (fun hHeld=>?_);clear hK K;refine wpAnyH_ready (rs:=[4]) (by kernel_rfl) (by simp) (.cons rfl (fun K hK=>?_) .nil)
   go_simp;go_wp2_with fail;refine (refState11_any l0 _ HF0.out HFo0.out).mono ?_;rintro e w7 ⟨l,rfl,Fl,b7,hSt,hRt⟩;have HB7:=wTr HB6 b7;have A7:=HZ.out.below HB7.out;have st:=run_stSw (m':=mkF l) A7;have HE1:Hid (SwBox (w7.setRow (G+2) (FaC (mkF l))) (G+2) (mkF l)):=A7.setRow;have HBe:Hid (Below wk.heap.size wk w7/\SwBox (w7.setRow (G+2) (FaC (mkF l))) G (mkF s)/\DiBox (w7.setRow (G+2) (FaC (mkF l))) (G+1) (mkD d)):=⟨HB7.out,(setRow_other _ _ _ _ (by omega)).trans (HX.out.below HB7.out),(setRow_other _ _ _ _ (by omega)).trans (HD.out.below HB7.out)⟩;have HE:Hid (RsE w (w7.setRow (G+2) (FaC (mkF l))) (.returned (.tuple #[FaV (mkF l),.int .i64 0])) s d):=⟨l,0,rfl,Fl.offW A7 _,below_setRow (HBK.out.trans (HB7.out.mono HBK.out.size)) (by rw [HGs.out];omega),.inr ⟨⟨HFo.out,HFd.out⟩,rfl,q,l0,HXq.out,HL0.out,hSt⟩⟩;clear Fl b7 A7 hSt hRt
   refine hK.out _ _ (HSt.out _ HB7.out) (fun hHeld=>?_);clear hK K;refine wpAnyH_ready (rs:=[5]) (by kernel_rfl) (by simp) (.cons rfl (fun K hK=>?_) .nil);go_simp;refine hK.out _ _ ⟨run_ldSw HBe.out.2.1,run_ldDi HBe.out.2.2⟩ (fun hHeld=>?_);clear hK K;clear st;refine wU 6 ?_;refine wpAnyH_done (by kernel_rfl) ?_ _;clear hHeld;go_wp2_with fail;refine bodyPost_ret (res2Sw rfl rfl rfl HE1.out) rfl ?_;exact HE.out
end
end Go.Proofs.YtjeilkenjdnafaaGreat
