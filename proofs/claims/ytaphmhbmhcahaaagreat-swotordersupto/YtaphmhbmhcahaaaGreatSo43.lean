/- TVf SXt SYb SYc -/
import Derived.Test.YtaphmhbmhcahaaaGreatTk
import Derived.Test.YtaphmhbmhcahaaaGreatSo28
import Derived.Test.YtaphmhbmhcahaaaGreatSo42
import Derived.Test.YtaphmhbmhcahaaaGreatSo41
import Derived.Maps.OwnSet
import Derived.DeepKeys4
set_option maxRecDepth 100000
set_option maxHeartbeats 6400000
namespace Go.Proofs.YtaphmhbmhcahaaaGreat
section
open Go.ChangeShapes Go.WideShapes Go.ChangeAt Go.RowKit Go.Joins

def RSmT (L:List Rc):Prop:=L.length <= 209715/\∀ r∈L,r.p.P.cloud.length <= 1048576
structure FcU (w:World) (f:Fc):Prop where
 ok:FcOk w f
 row:FcR f
 sm:RSmT f.rs
 an:f.an <= 1048576
theorem FcU.rn {w:World} {f:Fc} (h:FcU w f):f.rn <= 209715:=by rw [<- h.ok.rs.len];exact h.sm.1
theorem cellsRe:Tryz.prog.cellsOf 80=3:=by kernel_rfl
theorem cellsSk:Tryz.prog.cellsOf 9=1:=by kernel_rfl
theorem cellsEs:Tryz.prog.cellsOf 22=1:=by kernel_rfl
theorem cellsRs:Tryz.prog.cellsOf 27=1:=by kernel_rfl
theorem bulk_at {H:Type}:∀ (l:List (DataW H)) (d:DataW H),d∈l -> Rows.uptoBulk d <= Rows.uptoBulkAll l
 | e :: l,d,h=>by
  simp only [Rows.uptoBulkAll];rcases List.mem_cons.1 h with rfl | h
  ·omega
  ·have:=bulk_at l d h;omega
theorem bulk_five {H:Type}:∀ (l:List (DataW H)),(∀ d∈l,5 <= Rows.uptoBulk d) -> 5 * l.length <= Rows.uptoBulkAll l
 | [],_=>by simp
 | d :: l,h=>by
  have h1:=bulk_five l (fun e he=>h e (List.mem_cons_of_mem _ he));have h2:=h d List.mem_cons_self;simp only [Rows.uptoBulkAll,List.length_cons];omega
theorem viewEu {H:Type} {enc:TypeId × Value -> H} {W:World} {fuel:Nat} {v:Value} {x:DataW H × List MemPlace}
  (h:DataW.trod enc Tryz.prog W 0 (fun _=>true) true fuel 22 [v]=some x) (hw:Rows.uptoBulk x.1 <= 1048576):∃ (ao:Option Addr) (n cap:Nat) (L:List K.En),v = .slice ao n cap/\K.ESrc W ao n cap L/\n <= 1048576:=by
 rcases DataW.trod_slice Tryz.underlying22 h with h0 | ⟨a,len,cap,elems,rest,n,_,hcs,hx,hb,hl,hm,hlen,hel,hsp,hns⟩
 ·have e:v = .slice none 0 0:=by simpa using h0.1
  exact ⟨none,0,0,[],e,⟨rfl,fun _=>⟨rfl,rfl⟩,fun ad h=>(by cases h),fun e he=>(by cases he),Nat.zero_le _⟩,Nat.zero_le _⟩
 ·subst hx
  have e:v = .slice (some a) len cap:=by simpa using hcs
  simp only [Rows.uptoBulk] at hw;have h1:=bulk_len (elems.map (·.1));simp only [List.length_map] at h1
  have key:∀ i,i < len -> ∃ e:K.En,K.EnAt W (a.add (i * 4)) e/\e.sku.size <= maxLen:=by
   intro i hi;have he:=hel i hi;obtain ⟨y,hy⟩:∃ y,elems[i]? = some y:=⟨_,List.getElem?_eq_getElem (by omega)⟩;rw [hy,K.cells28,Option.bind_eq_some_iff] at he;obtain ⟨cs',hcs,hy'⟩:=he;obtain ⟨_,-,hce⟩:=World.cells?_some hcs;obtain ⟨e,rfl,hs⟩:=K.open_entry hy';have g0:=hce 0 (by omega);rw [add_zero] at g0;exact ⟨e,⟨g0,hce 1 (by omega),hce 2 (by omega),hce 3 (by omega)⟩,hs⟩
  refine ⟨some a,len,cap,(List.range len).map fun i=>if h:i < len then Classical.choose (key i h) else K.en0,e,⟨by simp,fun h=>(by cases h),fun ad h t ht=>?_,fun e he=>?_,by omega⟩,by omega⟩
  ·obtain rfl:=Option.some.inj h
   have:((List.range len).map fun i=>if h:i < len then Classical.choose (key i h) else K.en0).getD t K.en0=Classical.choose (key t ht):=by simp [List.getD,ht]
   rw [this];exact (Classical.choose_spec (key t ht)).1
  ·simp only [List.mem_map,List.mem_range] at he;obtain ⟨i,hi,rfl⟩:=he;rw [dif_pos hi];exact (Classical.choose_spec (key i hi)).2
theorem past_bulk {H:Type} {enc:TypeId × Value -> H} {W:World} {fuel:Nat} {cs:List Value} {x:DataW H × List MemPlace}
  (h:DataW.trod enc Tryz.prog W 0 (fun _=>true) true fuel 26 cs=some x):3 <= Rows.uptoBulk x.1:=by
 obtain ⟨xs,m,_,hx,hcl,hxl,hf⟩:=DataW.trod_struct Tryz.underlying26 h;obtain ⟨y0,y1,rfl⟩:=list2 hxl;subst hx;have h0:=bulk_pos y0.1;have h1:=bulk_pos y1.1;simp only [Rows.uptoBulk,List.map_cons,List.map_nil,Rows.uptoBulkAll];omega
theorem open_recordU {H:Type} {enc:TypeId × Value -> H} {W:World} {fuel:Nat} {cs:List Value} {x:DataW H × List MemPlace}
  (h:DataW.trod enc Tryz.prog W 0 (fun _=>true) true fuel 80 cs=some x):5 <= Rows.uptoBulk x.1/\(Rows.uptoBulk x.1 <= 1048576 -> ∃ r:Rc,cs=(ReC (mkR r)).toList/\RcOk W r/\r.p.P.cloud.length <= 1048576):=by
 obtain ⟨xs,m,_,hx,hcl,hxl,hf⟩:=DataW.trod_struct Tryz.underlying80 h;obtain ⟨v0,v1,v2,rfl⟩:=list3 (hcl.trans cellsRe);obtain ⟨y0,y1,rfl⟩:=list2 hxl;have t0:=hf 0 _ rfl;have t1:=hf 1 _ rfl;simp [cellsP,cellsSk] at t0 t1;subst hx;simp only [Rows.uptoBulk,List.map_cons,List.map_nil,Rows.uptoBulkAll];have b0:=bulk_pos y0.1;have b1:=past_bulk t1;refine ⟨by omega,fun hw=>?_⟩;obtain ⟨s,e0,-,hs⟩:=DataW.trod_string Tryz.underlying9 t0;obtain ⟨p,ep,Sp,hl⟩:=viewP t1 (by omega);simp only [List.cons.injEq,and_true] at e0 ep;obtain ⟨rfl,rfl⟩:=ep;subst e0;exact ⟨⟨s,p⟩,rfl,⟨Sp,hs⟩,hl⟩
theorem viewRT {H:Type} {enc:TypeId × Value -> H} {W:World} {fuel:Nat} {v:Value} {x:DataW H × List MemPlace}
  (h:DataW.trod enc Tryz.prog W 0 (fun _=>true) true fuel 27 [v]=some x) (hw:Rows.uptoBulk x.1 <= 1048576):∃ (ao:Option Addr) (n cap:Nat) (L:List Rc),v = .slice ao n cap/\RcT W ao n cap L/\RSmT L:=by
 rcases DataW.trod_slice Tryz.underlying27 h with h0 | ⟨a,len,cap,elems,rest,n,_,hcs,hx,hb,hl,hm,hlen,hel,hsp,hns⟩
 ·have e:v = .slice none 0 0:=by simpa using h0.1
  exact ⟨none,0,0,[],e,⟨RcS.empty _,Nat.le_refl _,fun _=>rfl⟩,Nat.zero_le _,fun r hr=>by cases hr⟩
 ·subst hx
  have e:v = .slice (some a) len cap:=by simpa using hcs
  simp only [Rows.uptoBulk] at hw
  have op:∀ i (hi:i < elems.length),i < len/\∃ cs',(5 <= Rows.uptoBulk elems[i].1/\(Rows.uptoBulk elems[i].1 <= 1048576 -> ∃ r:Rc,cs'=(ReC (mkR r)).toList/\RcOk W r/\r.p.P.cloud.length <= 1048576))/\(∀ j,j < 3 -> W.cell? ((a.add (i * 3)).add j)=cs'[j]?):=by
   intro i hi
   have hi':i < len:=by omega
   have he:=hel i hi';rw [List.getElem?_eq_getElem hi,cellsRe,Option.bind_eq_some_iff] at he;obtain ⟨cs',hcs,hy'⟩:=he;obtain ⟨_,-,hce⟩:=World.cells?_some hcs;exact ⟨hi',cs',open_recordU hy',fun j hj=>hce j hj⟩
  have h5:=bulk_five (elems.map (·.1)) (fun d hd=>by
   obtain ⟨y,hy,rfl⟩:=List.mem_map.1 hd;obtain ⟨i,hi,rfl⟩:=List.getElem_of_mem hy;obtain ⟨-,_,h,-⟩:=op i hi
   exact h.1)
  simp only [List.length_map] at h5
  have key:∀ i,i < len -> ∃ r:Rc,ReAt W (a.add (i * 3)) (mkR r)/\RcOk W r/\r.p.P.cloud.length <= 1048576:=by
   intro i hi
   have hi':i < elems.length:=by omega
   obtain ⟨-,cs',h,hce⟩:=op i hi';obtain ⟨r,rfl,hr,hl2⟩:=h.2 (by have:=bulk_at (elems.map (·.1)) elems[i].1 (List.mem_map_of_mem (f:=(·.1)) (List.getElem_mem hi'));omega);have g0:=hce 0 (by omega);rw [add_zero] at g0;exact ⟨r,⟨g0,hce 1 (by omega),hce 2 (by omega)⟩,hr,hl2⟩
  refine ⟨some a,len,cap,(List.range len).map fun i=>if h:i < len then Classical.choose (key i h) else rc0,e,⟨⟨by simp,(fun h=>by cases h),fun ad h t ht=>?_,fun r hr=>?_,by omega⟩,hl,fun h=>by cases h⟩,by simp;omega,fun r hr=>?_⟩
  ·obtain rfl:=Option.some.inj h
   have:((List.range len).map fun i=>if h:i < len then Classical.choose (key i h) else rc0).getD t rc0=Classical.choose (key t ht):=by simp [List.getD,ht]
   rw [this];exact (Classical.choose_spec (key t ht)).1
  ·simp only [List.mem_map,List.mem_range] at hr;obtain ⟨i,hi,rfl⟩:=hr;rw [dif_pos hi];exact (Classical.choose_spec (key i hi)).2.1
  ·simp only [List.mem_map,List.mem_range] at hr;obtain ⟨i,hi,rfl⟩:=hr;rw [dif_pos hi];exact (Classical.choose_spec (key i hi)).2.2
end
section
open Go.ChangeShapes Go.WideShapes Go.ChangeAt Go.RowKit Go.Joins
theorem cellsSw:Tryz.prog.cellsOf 29=4:=by kernel_rfl
theorem open_swotU {H:Type} {enc:TypeId × Value -> H} {W:World} {fuel:Nat} {cs:List Value} {x:DataW H × List MemPlace}
  (h:DataW.trod enc Tryz.prog W 0 (fun _=>true) true fuel 29 cs=some x) (hw:Rows.uptoBulk x.1 <= 1048576):∃ f:Fc,cs=(FaC (mkF f)).toList/\FcU W f:=by
 obtain ⟨xs,m,_,hx,hcl,hxl,hf⟩:=DataW.trod_struct Tryz.underlying29 h;obtain ⟨v0,v1,v2,v3,rfl⟩:=K.list4 (hcl.trans cellsSw);obtain ⟨y0,y1,y2,rfl⟩:=list3 hxl;have t0:=hf 0 _ rfl;have t1:=hf 1 _ rfl;have t2:=hf 2 _ rfl;simp [cellsP,cellsEs,cellsRs] at t0 t1 t2;subst hx;simp only [Rows.uptoBulk,List.map_cons,List.map_nil,Rows.uptoBulkAll] at hw;obtain ⟨ro,rn,rc,R,rfl,Sr,r1⟩:=viewRT t2 (by omega);obtain ⟨ao,an,ac,A,rfl,Sa,a1⟩:=viewEu t0 (by omega);obtain ⟨p,ep,Sp,-⟩:=viewP t1 (by omega);simp only [List.cons.injEq,and_true] at ep;obtain ⟨rfl,rfl⟩:=ep;exact ⟨⟨ao,an,ac,A,p,ro,rn,rc,R⟩,rfl,⟨Sa,Sp,Sr.src⟩,⟨Sr.room,Sr.nil⟩,r1,a1⟩
theorem FcU.b {w:World} {s:Fc} (h:FcU w s):SwB 1 w s:=⟨h.ok,h.row,by have:=h.rn;omega,by have:=h.an;omega,h.sm.2⟩
end
section
open Go.RowKit
def eD (d:Rn):K.En:=⟨d.lo,d.hi,⟨#[]⟩,0⟩
theorem dotIn_eD (P:Pst) (d:Rn):dotIn P d↔inB P (eD d)=true:=(inB_iff P (eD d)).symm
def LvD (s:Fc) (d:Rn):Prop:=∃ e∈s.es,dotOf e=d
theorem KnOf.cases {s:Fc} {d:Rn} {x:Int} (hf:FormS s) (h:KnOf s d x):(¬ inB s.p.P (eD d)=true/\x=0)∨(inB s.p.P (eD d)=true/\LvD s d/\x=1)∨(inB s.p.P (eD d)=true/\¬ LvD s d/\x=2):=by
 rcases h with ⟨h,rfl⟩ | ⟨⟨-,h⟩,h2,rfl⟩ | ⟨⟨-,h⟩,h2,rfl⟩
 ·exact .inl ⟨fun k=>h ⟨hf,(dotIn_eD _ _).2 k⟩,rfl⟩
 ·exact .inr (.inl ⟨(dotIn_eD _ _).1 h,h2,rfl⟩)
 ·exact .inr (.inr ⟨(dotIn_eD _ _).1 h,h2,rfl⟩)
attribute [local go_sem ↓] ldP_eq stP_eq ldSw_eq stSw_eq ldD_eq stD_eq
attribute [local go_sem] cells_PV PC_size cells_FaV FaC_size zero_FaZ cells_RV RC_size zero_RC
end
section
open Go.RowKit Go.Maps
theorem lawD:Keyed Tryz.prog 43:=Keyed.of_law (deep_law_laid K.laidOut (m:=3) (by decide) (of_decide_eq_true (by kernel_rfl)) (by kernel_rfl) (by kernel_rfl))
theorem kl_int (d:Nat) (n:Int) (h:(Lit.int .i64 n).wf=true):Tryz.prog.keyLits (d+1) 3 [.int .i64 n]=some [.int .i64 n]:=by
 simp [Program.keyLits,Tryz.underlying3,h]
theorem key_dot0 (r n:Int) (hr:(Lit.int .i64 r).wf=true) (hn:(Lit.int .i64 n).wf=true):∃ l,keyOf Tryz.prog 43 (.agg #[.int .i64 r,.int .i64 n])=some l:=by
 have h0:Tryz.prog.keyType 43=true:=by kernel_rfl
 have h1:Value.formed Tryz.prog 43 (.agg #[.int .i64 r,.int .i64 n])=true:=by kernel_rfl
 have hc:Tryz.prog.cellsOf 43=2:=by kernel_rfl
 have hc3:Tryz.prog.cellsOf 3=1:=by kernel_rfl
 have h2:∃ L,Tryz.prog.keyLits (Tryz.prog.types.size+1) 43 [.int .i64 r,.int .i64 n]=some L:=by
  obtain ⟨m,hm⟩:∃ m,Tryz.prog.types.size=m+1:=⟨Tryz.prog.types.size - 1,by have:0 < Tryz.prog.types.size:=of_decide_eq_true (by kernel_rfl);omega⟩;rw [hm];unfold Program.keyLits;simp only [Tryz.underlying43];rw [if_pos ⟨by rw [hc];rfl,by kernel_rfl⟩];simp [hc3,kl_int,hr,hn]
 obtain ⟨L,hL⟩:=h2;unfold keyOf;simp only [Tryz.underlying43];rw [h0,h1,if_pos (by rfl)];exact ⟨_,by rw [show (Value.agg #[.int .i64 r,.int .i64 n]).cells.toList=[.int .i64 r,.int .i64 n] from rfl,hL];rfl⟩
theorem wf_small {n:Int} (h0:0 <= n) (h1:n <= 1000000000):(Lit.int .i64 n).wf=true:=by
 have a:IntKind.i64.min = -9223372036854775808:=by decide
 have b:IntKind.i64.max=9223372036854775807:=by decide
 show (decide (IntKind.i64.min <= n) && decide (n <= IntKind.i64.max))=true
 rw [a,b];simp;omega
theorem key_dot {d:Rn} (h:okD d=true):∃ l,keyOf Tryz.prog 43 (RV d)=some l:=by
 unfold okD at h;simp only [Bool.and_eq_true,decide_eq_true_eq] at h
 have h4:0 <= d.lo/\d.lo < 16:=by simpa [V.isR] using h.1
 exact key_dot0 d.lo d.hi (wf_small h4.1 (by omega)) (wf_small (by omega) h.2.2)
theorem RV_inj {x y:Rn} (h:RV x=RV y):x=y:=by
 obtain ⟨a,b⟩:=x;obtain ⟨c,d⟩:=y;simp [RV,RC] at h;rw [h.1,h.2]
def RE (v:Value):Option (DataW K.En × List MemPlace):=
 match v with
 | .agg cs=>(match cs.toList with
  | [.int .i64 r,.int .i64 n,.string s,.int .i64 q]=>some (.held ⟨r,n,s,q⟩,[])
  | _=>none)
 | _=>none
theorem RE_mk (e:K.En):RE (K.EV e)=some (.held e,[]):=by cases e;rfl
theorem RE_inv {v:Value} {d:DataW K.En} {p:List MemPlace} (h:RE v=some (d,p)):∃ e:K.En,v=K.EV e/\d = .held e:=by
 unfold RE at h
 split at h
 ·rename_i cs
  split at h
  ·rename_i r n s q hc
   simp only [Option.some.injEq,Prod.mk.injEq] at h;refine ⟨⟨r,n,s,q⟩,?_,h.1.symm⟩
   show Value.agg cs = .agg #[.int .i64 r,.int .i64 n,.string s,.int .i64 q]
   rw [<- Array.toList_inj.1 (show cs.toList=#[Value.int .i64 r,.int .i64 n,.string s,.int .i64 q].toList from hc)]
  ·cases h
 ·cases h
def DmE (D:DataW K.En) (L:List K.En):Prop:=∀ d l,keyOf Tryz.prog 43 (RV d)=some l -> (has D l=true↔∃ e∈L,dotOf e=d)/\∀ e∈L,dotOf e=d -> D.atKey l (.held K.en0) = .held e
theorem dm_start:DmE (.map []) []:=fun d l _=>⟨by simp [has],fun e he=>by cases he⟩
theorem dm_step {D:DataW K.En} {L:List K.En} (h:DmE D L) (hm:IsMap D) {e:K.En} {kl:Lit} (hk:keyOf Tryz.prog 43 (RV (dotOf e))=some kl) (hu:∀ x∈L,dotOf x≠dotOf e):DmE (D.put kl (.held e)) (L++[e]):=fun d l hl=>by
 by_cases hd:dotOf e=d
 ·subst hd;rw [hk] at hl;obtain rfl:=Option.some.inj hl;refine ⟨⟨fun _=>⟨e,by simp,rfl⟩,fun _=>has_put_same hm (lawD.key hk) _⟩,fun x hx hxd=>?_⟩;rw [atKey_put_same hm (lawD.key hk)];rcases List.mem_append.1 hx with hx | hx
  ·exact absurd hxd (hu x hx)
  ·rw [List.mem_singleton.1 hx]
 ·have hne:l≠kl:=fun k=>by
   subst k;exact hd (RV_inj (lawD.inj hk hl))
  obtain ⟨h1,h2⟩:=h d l hl;refine ⟨?_,fun x hx hxd=>?_⟩
  ·rw [has_put_other hne,h1];constructor
   ·rintro ⟨x,hx,h⟩;exact ⟨x,List.mem_append.2 (.inl hx),h⟩
   ·rintro ⟨x,hx,h⟩;rcases List.mem_append.1 hx with hx | hx
    ·exact ⟨x,hx,h⟩
    ·rw [List.mem_singleton.1 hx] at h;exact absurd h hd
  ·rw [atKey_put_other hne];rcases List.mem_append.1 hx with hx | hx
   ·exact h2 x hx hxd
   ·rw [List.mem_singleton.1 hx] at hxd;exact absurd hxd hd
def MapE (w:World) (b k:Nat) (L:List K.En):Prop:=∃ D,w.ownsMap Tryz.prog 43 RE b k D/\DmE D L
theorem MapE.below {w w':World} {b k n:Nat} {L:List K.En} (h:MapE w b k L) (hb:Below n w w') (hn:b < n):MapE w' b k L:=by
 obtain ⟨D,⟨es,c,h1,h2⟩,h3⟩:=h;exact ⟨D,⟨es,c,(hb.block b hn).trans h1,h2⟩,h3⟩
theorem MapE.lt {w:World} {b k:Nat} {L:List K.En} (h:MapE w b k L):b < w.heap.size:=h.choose_spec.1.lt
theorem MapE.put {w0 W:World} {b k m:Nat} {L:List K.En} (h:MapE W b k L) (hk:k < maxLen) (e:K.En) (hd:okD (dotOf e)=true) (hu:∀ x∈L,dotOf x≠dotOf e) (hb:Below m w0 W) (hm:m <= b) (hm2:m <= W.heap.size) :
  ∃ W',(Instr.mapUpdate 95 (.map (some b)) (RV (dotOf e)) (K.EV e)).run Tryz.prog W = .ok () W'/\MapE W' b (k+1) (L++[e])/\Below m w0 W':=by
 obtain ⟨D,ho,hD⟩:=h;obtain ⟨kl,hkl⟩:=key_dot hd;obtain ⟨W',hr,ho',hg⟩:=ho.update lawD Tryz.underlying95 hk hkl (RE_mk e);exact ⟨W',hr,⟨_,ho',dm_step hD ho.isMap hkl hu⟩,hb.grown hg hm2 (fun j hj=>by cases hj;exact hm)⟩
theorem MapE.look {W:World} {b k:Nat} {L:List K.En} (h:MapE W b k L) (d:Rn) (hd:okD d=true) :
  ∃ (v:K.En) (x:Bool),(Instr.lookup 95 (.map (some b)) (RV d) true).run Tryz.prog W = .ok (.tuple #[K.EV v,.bool x]) W/\(x=true↔∃ e∈L,dotOf e=d)/\∀ e∈L,dotOf e=d -> v=e:=by
 obtain ⟨D,ho,hD⟩:=h;obtain ⟨kl,hkl⟩:=key_dot hd;obtain ⟨v,ps,hr,hv⟩:=ho.look_ok lawD Tryz.underlying95 (Tryz.zeroValue66 W) (RE_mk K.en0) hkl;obtain ⟨e,rfl,he⟩:=RE_inv hv;obtain ⟨h1,h2⟩:=hD d kl hkl;refine ⟨e,_,hr,h1,fun x hx hxd=>?_⟩;rw [h2 x hx hxd] at he;exact (DataW.held.inj he).symm
theorem take_snocE (L:List K.En) (k:Nat) (h:k < L.length):L.take (k+1)=L.take k++[L.getD k K.en0]:=by
 rw [List.take_succ_eq_append_getElem h];simp [List.getD,h]
theorem asc_new {L:List K.En} (h:K.Asc L) {k:Nat} (hk:k < L.length):∀ x∈L.take k,dotOf x≠dotOf (L.getD k K.en0):=fun x hx hd=>by
 obtain ⟨i,hi,rfl⟩:=List.getElem_of_mem hx;have hi2:=hi;rw [List.length_take] at hi2
 have hik:i < k:=by omega
 have hiL:i < L.length:=by omega
 have h1:(L.take k)[i]=L[i]:=List.getElem_take;have h2:=(List.pairwise_iff_getElem.1 h) i k hiL hk hik
 have h3:L.getD k K.en0=L[k]:=by simp [List.getD,hk]
 rw [h1,h3] at hd
 have h4:K.sameDot L[i] L[k]=true:=by
  have a:=congrArg Rn.lo hd;have b:=congrArg Rn.hi hd;unfold K.sameDot;rw [Bool.and_eq_true,beq_iff_eq,beq_iff_eq];exact ⟨a,b⟩
 have h5:=asc_dotS h (List.getElem_mem hiL) (List.getElem_mem hk) h4;rw [h5] at h2;rw [K.ahead_irr] at h2
 cases h2
theorem clash_from {A B:List K.En} {x y:K.En} (hx:x∈A) (hy:y∈B) (hd:dotOf x=dotOf y) (hne:x≠y):K.Clash (A++B):=by
 refine ⟨x,List.mem_append.2 (.inl hx),y,List.mem_append.2 (.inr hy),?_,hne⟩;have a:=congrArg Rn.lo hd;have b:=congrArg Rn.hi hd;unfold K.sameDot;rw [Bool.and_eq_true,beq_iff_eq,beq_iff_eq];exact ⟨a,b⟩
theorem no_clash {A B:List K.En} (hA:K.Asc A) (hB:K.Asc B) (h:∀ y∈B,∀ x∈A,dotOf x=dotOf y -> x=y):¬ K.Clash (A++B):=by
 have dot:∀ {x y:K.En},K.sameDot x y=true -> dotOf x=dotOf y:=fun {x y} k=>by
  unfold K.sameDot at k;rw [Bool.and_eq_true,beq_iff_eq,beq_iff_eq] at k
  show (⟨x.rep,x.num⟩:Rn)=⟨y.rep,y.num⟩
  rw [k.1,k.2]
 rintro ⟨x,hx,y,hy,hs,hne⟩;rcases List.mem_append.1 hx with hx | hx <;> rcases List.mem_append.1 hy with hy | hy
 ·exact hne (asc_dotS hA hx hy hs)
 ·exact hne (h y hy x hx (dot hs))
 ·exact hne (h x hx y hy (dot hs).symm).symm
 ·exact hne (asc_dotS hB hx hy hs)
attribute [local go_sem ↓] ldP_eq stP_eq ldSw_eq stSw_eq ldD_eq stD_eq K.ld28_eq K.st28_eq
attribute [local go_sem] cells_PV PC_size cells_FaV FaC_size cells_RV RC_size zero_RC K.cells_EV K.EC_size K.zero_EC
theorem clash_any (a b:Fc) (w:World) (hA:FcOk w a) (hB:FcOk w b) (ha:K.chk a.es=0) (hb:K.chk b.es=0):Calls Tryz.prog 29 #[FaV (mkF a),FaV (mkF b)] w fun e w'=>GivB w w' e (K.Clash (a.es++b.es)):=by
 obtain ⟨wk,hwk,HX,HY,HBK,hsz⟩:=box2J w a b;obtain ⟨G,hG0⟩:∃ G,w.heap.size=G:=⟨_,rfl⟩;rw [hG0] at HX HY hsz;have HA:=hide (hA.below HBK.out);have HB:=hide (hB.below HBK.out);have HLa:Hid (a.es.length=a.an):=hA.es.1;have HLb:Hid (b.es.length=b.an):=hB.es.1;have hba:=hA.es.2.2.2.2;have hbb:=hB.es.2.2.2.2;obtain ⟨n,hn⟩:∃ n,a.an=n:=⟨_,rfl⟩;obtain ⟨m,hm⟩:∃ m,b.an=m:=⟨_,rfl⟩
 have HCa:Hid (∀ W,Below wk.heap.size wk W -> W.cell? ⟨G,0,none⟩=some (.slice a.ao n a.ac)):=fun W h=>by rw [<- hn];exact (HX.out.below h).cs.1
 have HCb:Hid (∀ W,Below wk.heap.size wk W -> W.cell? ⟨G+1,0,none⟩=some (.slice b.ao m b.ac)):=fun W h=>by rw [<- hm];exact (HY.out.below h).cs.1
 rw [hn] at HLa hba;rw [hm] at HLb hbb
 have HEa:Hid (K.ESrc wk a.ao n a.ac a.es):=by rw [<- hn];exact HA.out.es
 have HEb:Hid (K.ESrc wk b.ao m b.ac b.es):=by rw [<- hm];exact HB.out.es
 have HAs:Hid (K.Asc a.es/\K.Asc b.es/\(∀ e∈a.es,okD (dotOf e)=true)/\∀ e∈b.es,okD (dotOf e)=true):=⟨K.chk_asc' ha,K.chk_asc' hb,fun e he=>ce_dot (chk_ce ha e he),fun e he=>ce_dot (chk_ce hb e he)⟩;have HM0:Hid (MapE (wk.alloc (.map #[] 0)) wk.heap.size 0 []):=⟨_,World.ownsMap_made _ _ _ _,dm_start⟩;have HB0:=hide (below_new wk (.map #[] 0));have hmm:=@run_makeMap Tryz.prog;have HG:Hid (wk.heap.size=G+2):=hsz;have hgm:=hsz;rw [hsz] at HM0;clear hA hB hn hm ha hb;go_enter Tryz.func29,Tryz.ntmps29;go_wp2_with fail;clear hwk hG0 hsz hgm;go_loopw [6] (fun i wr=>∃ k:Nat,k <= n/\i = .int .i64 (k:Int)/\Hid (MapE wr (G+2) k (a.es.take k))/\Hid (Below wk.heap.size wk wr)) (fun i _=>n - (intOf i).toNat)
 case atStart=>exact ⟨0,Nat.zero_le _,rfl,HM0,HB0⟩
 case round =>
  obtain ⟨k,hk,rfl,HM,HK⟩:=hrel
  rename World=>wr
  have c0:=HCa.out _ HK.out;by_cases hlt:k < n
  ·have hlti:(k:Int) < (n:Int):=by omega
   obtain ⟨ad,hae,-⟩:=HEa.out.at k hlt;obtain ⟨e,He⟩:∃ e,Hid (a.es.getD k K.en0=e):=⟨_,rfl⟩
   have hkL:k < a.es.length:=by rw [HLa.out];exact hlt
   have Hin:Hid (e∈a.es):=by rw [<- He.out];exact getE_in hkL
   have HT:Hid (a.es.take (k+1)=a.es.take k++[e]):=by rw [<- He.out];exact take_snocE _ _ hkL
   have Hlt:=hide hlt;have Hae:=hide hae
   have HF:Hid (∀ W,Below wk.heap.size wk W -> K.EnAt W (ad.add (k * 4)) e):=fun W hW=>by
    obtain ⟨ad',ea,A⟩:=(HEa.out.below hW).at k Hlt.out;rw [Hae.out] at ea;obtain rfl:=Option.some.inj ea;rw [He.out] at A;exact A
   have HBd:=hide (HK.out.trans ((below_drew1 wr).mono HK.out.size));obtain ⟨w2,hu,m2,b2⟩:=(HM.out.below (n:=wr.heap.size) (below_drew1 wr) HM.out.lt).put (by unfold maxLen;omega) e (HAs.out.2.2.1 e Hin.out) (by rw [<- He.out];exact asc_new HAs.out.1 hkL) HBd.out (by have:=HG.out;omega) HBd.out.size;have HU:=hide hu;have HM2:=hide m2;have HB2:=hide b2
   have HSt:Hid (∀ W,Below wk.heap.size wk W -> W.cell? ⟨G,0,none⟩=some (.slice (some ad) n a.ac)/\(ldD (.pointer (some (ad.add (k * 4))))).run Tryz.prog W = .ok (RV (dotOf e)) W/\(K.ld28 (.pointer (some (ad.add (k * 4))))).run Tryz.prog W = .ok (K.EV e) W):=fun W hW=>by
    have h':=HCa.out W hW;rw [Hae.out] at h';have A:=HF.out W hW;exact ⟨h',run_ldD (r:=dotOf e) ⟨A.c0,A.c1⟩,K.run_ld28 A⟩
   clear hlt hk hae hkL hu m2 b2;go_upto_region 5 with fail;refine wp_region_held_drew (S:=fun W=>W.cell? ⟨G,0,none⟩=some (.slice (some ad) n a.ac)/\(ldD (.pointer (some (ad.add (k * 4))))).run Tryz.prog W = .ok (RV (dotOf e)) W/\(K.ld28 (.pointer (some (ad.add (k * 4))))).run Tryz.prog W = .ok (K.EV e) W) (by kernel_rfl) (HSt.out _ HBd.out) (fun hHeld=>?_);refine wU 0 ?_;refine wU 1 ?_;refine wU 2 ?_;refine wU 3 ?_;refine wU 4 ?_;refine wU 5 ?_;refine wU 6 ?_;refine wU 7 ?_;refine wU 8 ?_;refine wU 9 ?_;refine wU 10 ?_;refine wU 11 ?_;refine wpAnyH_ready (rs:=[12]) (by kernel_rfl) (by simp) (.cons rfl (fun K hK=>?_) .nil);have hu:=HU.out;go_simp;clear hu;refine hK.out _ _ (HSt.out _ HB2.out) (fun hHeld=>?_);clear hK K;refine wpAnyH_done (by kernel_rfl) ?_ _;clear hHeld c0;go_wp2_with fail;go_roundw
   case rel=>exact ⟨k+1,Hlt.out,by simp,by rw [HT.out];exact HM2,HB2⟩
   case measure=>simp [intOf];have:=Hlt.out;omega
  ·have hlti:¬ (k:Int) < (n:Int):=by omega
   obtain rfl:k=n:=by omega
   have HMa:Hid (MapE wr (G+2) k a.es):=by
    have h:=HM.out;rw [List.take_of_length_le (by have:=HLa.out;omega)] at h;exact h
   have HKr:=hide HK.out;clear hlt hk HM;go_wp2_with fail;clear c0;go_loopw [7] (fun j wq=>∃ l:Nat,l <= m/\j = .int .i64 (l:Int)/\Hid (MapE wq (G+2) k a.es)/\Hid ((∀ t,t < l -> ∀ x∈a.es,dotOf x=dotOf (b.es.getD t K.en0) -> x=b.es.getD t K.en0)/\Below wk.heap.size wk wq)) (fun j _=>m - (intOf j).toNat)
   case atStart=>exact ⟨0,Nat.zero_le _,rfl,HMa,fun t h=>by omega,HKr.out⟩
   case round =>
    obtain ⟨l,hl,rfl,HM,HL⟩:=hrel
    rename World=>wq
    have c0:=HCb.out _ HL.out.2;by_cases hlj:l < m
    ·have hlji:(l:Int) < (m:Int):=by omega
     obtain ⟨bd,hbe,-⟩:=HEb.out.at l hlj;obtain ⟨y,Hy⟩:∃ e,Hid (b.es.getD l K.en0=e):=⟨_,rfl⟩
     have Hyn:Hid (y∈b.es):=by rw [<- Hy.out];exact getE_in (by rw [HLb.out];exact hlj)
     have Hlj:=hide hlj;have Hbe:=hide hbe;rw [hbe] at c0
     have HF:Hid (∀ W,Below wk.heap.size wk W -> K.EnAt W (bd.add (l * 4)) y):=fun W hW=>by
      obtain ⟨ad',ea,A⟩:=(HEb.out.below hW).at l Hlj.out;rw [Hbe.out] at ea;obtain rfl:=Option.some.inj ea;rw [Hy.out] at A;exact A
     obtain ⟨v,x,hlk,hx,hv⟩:=HM.out.look (dotOf y) (HAs.out.2.2.2 y Hyn.out);have A:=HF.out _ HL.out.2;have ld:=run_ldD (w:=wq) (r:=dotOf y) ⟨A.c0,A.c1⟩;obtain ⟨ge,hge⟩:∃ g,wq.heap.size=g:=⟨_,rfl⟩;obtain ⟨w3,hst,X3,B3,-⟩:=K.made wq v ge hge;have HX3:=hide X3;have HM3:=hide (HM.out.below (n:=wq.heap.size) B3 HM.out.lt);have HB3:=hide (HL.out.2.trans (B3.mono HL.out.2.size))
     have HSt:Hid (∀ W,Below w3.heap.size w3 W -> W.cell? ⟨G+1,0,none⟩=some (.slice (some bd) m b.ac)/\(K.ld28 (.pointer (some (bd.add (l * 4))))).run Tryz.prog W = .ok (K.EV y) W/\(K.ld28 (.pointer (some ⟨ge,0,none⟩))).run Tryz.prog W = .ok (K.EV v) W):=fun W hW0=>by
      have hW:=HB3.out.trans (hW0.mono HB3.out.size);have h':=HCb.out W hW;rw [Hbe.out] at h';exact ⟨h',K.run_ld28 (HF.out W hW),K.run_ld28 (HX3.out.below hW0).at⟩
     have HNx:Hid ((x=false∨v=y) -> ∀ W,Below w3.heap.size w3 W -> Hid (MapE W (G+2) k a.es)/\Hid ((∀ t,t < l+1 -> ∀ x∈a.es,dotOf x=dotOf (b.es.getD t K.en0) -> x=b.es.getD t K.en0)/\Below wk.heap.size wk W)):=fun hor W hW=>⟨HM3.out.below hW HM3.out.lt,fun t ht=>by
      by_cases e1:t=l
      ·subst e1;rw [Hy.out];intro z hz hd;rcases hor with hor | hor
       ·rw [hx.2 ⟨z,hz,hd⟩] at hor;cases hor
       ·rw [<- hor,hv z hz hd]
      ·exact HL.out.1 t (by omega),HB3.out.trans (hW.mono HB3.out.size)⟩
     have HEx:Hid (x=true -> v≠y -> K.Clash (a.es++b.es)):=fun h1 h2=>by
      obtain ⟨z,hz,hd⟩:=hx.1 h1;obtain rfl:=hv z hz hd;exact clash_from hz Hyn.out hd h2
     clear hlj hl hbe A X3 B3 hx hv;go_upto_region 10 with fail;clear c0 hlk ld hge hst
     cases x with
     | false =>
      have HN:=HNx.out (.inl rfl) _ (below_drew1 w3);refine wp_region_held_drew (S:=fun W=>W.cell? ⟨G+1,0,none⟩=some (.slice (some bd) m b.ac)/\(K.ld28 (.pointer (some (bd.add (l * 4))))).run Tryz.prog W = .ok (K.EV y) W/\(K.ld28 (.pointer (some ⟨ge,0,none⟩))).run Tryz.prog W = .ok (K.EV v) W) (by kernel_rfl) (HSt.out _ (below_drew1 w3)) (fun hHeld=>?_);refine wU 0 ?_;refine wU 1 ?_;refine wV 2 ?_;refine wV 3 ?_;refine wV 4 ?_;refine wV 5 ?_;refine wV 6 ?_;refine wV 7 ?_;refine wV 8 ?_;refine wU 9 ?_;refine wpAnyH_done (by kernel_rfl) ?_ _;clear hHeld;go_wp2_with fail;go_roundw
      case rel=>exact ⟨l+1,Hlj.out,by simp,HN.1,HN.2⟩
      case measure=>simp [intOf];have:=Hlj.out;omega
     | true =>
      by_cases hvy:v=y
      ·have leq:∀ W:World,(Op.equalIn 10000 66 (K.EV v) (K.EV y)).run Tryz.prog W = .ok true W:=fun W=>(K.run_eq28 v y W).trans (congrArg (fun b=>Result.ok b W) ((K.eqE_iff v y).2 hvy));have HN:=HNx.out (.inr hvy) _ (below_drew1 w3);clear hvy;refine wp_region_held_drew (S:=fun W=>W.cell? ⟨G+1,0,none⟩=some (.slice (some bd) m b.ac)/\(K.ld28 (.pointer (some (bd.add (l * 4))))).run Tryz.prog W = .ok (K.EV y) W/\(K.ld28 (.pointer (some ⟨ge,0,none⟩))).run Tryz.prog W = .ok (K.EV v) W) (by kernel_rfl) (HSt.out _ (below_drew1 w3)) (fun hHeld=>?_);refine wU 0 ?_;refine wU 1 ?_;refine wU 2 ?_;refine wU 3 ?_;refine wU 4 ?_;refine wU 5 ?_;refine wU 6 ?_;refine wU 7 ?_;refine wU 8 ?_;refine wU 9 ?_;refine wpAnyH_done (by kernel_rfl) ?_ _;clear leq;clear hHeld;go_wp2_with fail;go_roundw
       case rel=>exact ⟨l+1,Hlj.out,by simp,HN.1,HN.2⟩
       case measure=>simp [intOf];have:=Hlj.out;omega
      ·have leq:∀ W:World,(Op.equalIn 10000 66 (K.EV v) (K.EV y)).run Tryz.prog W = .ok false W:=fun W=>(K.run_eq28 v y W).trans (congrArg (fun b=>Result.ok b W) (Bool.eq_false_iff.2 fun h=>hvy ((K.eqE_iff v y).1 h)));have HE:Hid (GivB w w3.drew (.returned (.bool true)) (K.Clash (a.es++b.es))):=⟨true,rfl,BIf.yes (HEx.out rfl hvy),HBK.out.trans ((HB3.out.trans ((below_drew1 w3).mono HB3.out.size)).mono HBK.out.size)⟩;clear hvy;refine wp_region_held_drew (S:=fun W=>W.cell? ⟨G+1,0,none⟩=some (.slice (some bd) m b.ac)/\(K.ld28 (.pointer (some (bd.add (l * 4))))).run Tryz.prog W = .ok (K.EV y) W/\(K.ld28 (.pointer (some ⟨ge,0,none⟩))).run Tryz.prog W = .ok (K.EV v) W) (by kernel_rfl) (HSt.out _ (below_drew1 w3)) (fun hHeld=>?_);refine wU 0 ?_;refine wU 1 ?_;refine wU 2 ?_;refine wU 3 ?_;refine wU 4 ?_;refine wU 5 ?_;refine wU 6 ?_;refine wU 7 ?_
       refine wU 8 ?_;refine wU 9 ?_;refine wpAnyH_done (by kernel_rfl) ?_ _;clear leq hHeld;go_wp2_with fail;go_ret;exact HE.out
    ·have hlji:¬ (l:Int) < (m:Int):=by omega
     have HE:Hid (GivB w wq (.returned (.bool false)) (K.Clash (a.es++b.es))):=⟨false,rfl,BIf.no (no_clash HAs.out.1 HAs.out.2.1 fun y hy x hx hd=>by
      obtain ⟨t,ht,rfl⟩:=List.getElem_of_mem hy;have h1:=HL.out.1 t (by have:=HLb.out;omega) x hx;rw [List.getD_eq_getElem?_getD,List.getElem?_eq_getElem ht] at h1
      exact h1 hd),HBK.out.trans (HL.out.2.mono HBK.out.size)⟩
     clear hlj hl;go_wp2_with fail;clear c0;go_ret;exact HE.out
end
end Go.Proofs.YtaphmhbmhcahaaaGreat
