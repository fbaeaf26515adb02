/- LCmp LRow LView LChk LRChk LSome LSame LUp -/
import Derived.Test.YtcilfelgpmfehaaGreatBj09
import Derived.Deep.RegionHeld
import Derived.Lib.QuietBelow
import Derived.Laws.Cells
import Derived.Laws.Tables
import Derived.Laws.CopyOwn
import Derived.ProofKit
import Derived.OpenShut
import Derived.Lib.SmallJoins
import Derived.HandedShaped
import Derived.SizedLaws
import Derived.ChangeMaps5
import Derived.Laws.StructEq
set_option maxRecDepth 100000
set_option maxHeartbeats 1600000
namespace Go.Proofs.YtcilfelgpmfehaaGreat.K
section
open Go.RowKit

def au (x y:Int):Int:=if x < y then -1 else if y < x then 1 else 0
theorem xK (x:Int) (w:World):Calls Tryz.prog 154 #[.int .i64 x] w fun e w'=>e = .returned (.bool false)/\w'=w:=by
 have h:(x != x)=false:=by simp
 go_enter Tryz.func154,Tryz.ntmps154;go_wp2_with fail;go_ret;exact ⟨by simp,rfl⟩
theorem qQ (x y:Int) (w:World):Calls Tryz.prog 122 #[.int .i64 x,.int .i64 y] w fun e w'=>e = .returned (.int .i64 (au x y))/\w'=w:=by
 by_cases h1:x < y
 ·have HC:Hid (au x y = -1):=by show _=_;unfold au;rw [if_pos h1]
  go_enter Tryz.func122,Tryz.ntmps122;go_wp2_with (go_at_call 154;refine (xK _ _).mono ?_;rintro e w' ⟨rfl,rfl⟩);go_ret;exact ⟨zx HC.out.symm,rfl⟩
 ·by_cases h2:y < x
  ·have HC:Hid (au x y=1):=by show _=_;unfold au;rw [if_neg h1,if_pos h2]
   go_enter Tryz.func122,Tryz.ntmps122;go_wp2_with (go_at_call 154;refine (xK _ _).mono ?_;rintro e w' ⟨rfl,rfl⟩);go_ret;exact ⟨zx HC.out.symm,rfl⟩
  ·have HC:Hid (au x y=0):=by show _=_;unfold au;rw [if_neg h1,if_neg h2]
   go_enter Tryz.func122,Tryz.ntmps122;go_wp2_with (go_at_call 154;refine (xK _ _).mono ?_;rintro e w' ⟨rfl,rfl⟩);go_ret;exact ⟨zx HC.out.symm,rfl⟩
def or2 (a b:Int):Int:=if a=0 then b else a
theorem zcW (g:Nat) (a b:Int) (w:World) (c0:w.cell? ⟨g,0,none⟩=some (.int .i64 a)) (c1:w.cell? ⟨g,1,none⟩=some (.int .i64 b)) :
  Calls Tryz.prog 121 #[.slice (some ⟨g,0,none⟩) 2 2] w fun e w'=>e = .returned (.int .i64 (or2 a b))/\w'=w:=by
 go_enter Tryz.func121,Tryz.ntmps121;go_wp2;go_loop [8] (fun i=>∃ k:Nat,k <= 2/\i = .int .i64 k/\Hid (0 < k -> a=0)/\Hid (1 < k -> b=0)) (fun i=>2 - (intOf i).toNat)
 case atStart=>exact ⟨0,Nat.zero_le _,rfl,fun h=>absurd h (by omega),fun h=>absurd h (by omega)⟩
 case round =>
  obtain ⟨k,hk,rfl,Ha,Hb⟩:=hrel;by_cases aq:k < 2
  ·obtain ⟨z,fk,Hz⟩:∃ z,w.cell? ⟨g,k,none⟩=some (.int .i64 z)/\Hid (or2 a b=if z=0/\k=0 then b else z):=by
    match k,aq,Ha with
    | 0,_,_=>exact ⟨a,c0,by show _=_;unfold or2;by_cases h:a=0 <;> simp [h]⟩
    | 1,_,Ha=>exact ⟨b,c1,by show _=_;unfold or2;rw [if_pos (Ha.out (by omega))];simp⟩
   have CP:Hid (z=0 -> (k=0 -> a=0)/\(k=1 -> b=0)):=by
    intro hz;constructor
    ·intro h;subst h;rw [c0] at fk;simpa [hz] using fk
    ·intro h;subst h;rw [c1] at fk;simpa [hz] using fk
   clear c0 c1;by_cases h0:z=0
   ·have hA:=(CP.out h0).1;have hB:=(CP.out h0).2
    have HA:Hid (0 < k+1 -> a=0):=by intro _;by_cases iA:k=0;exact hA iA;exact Ha.out (by omega)
    have HB:Hid (1 < k+1 -> b=0):=by intro _;exact hB (by omega)
    have lF:(z != 0)=false:=by simpa using h0
    clear h0 hA hB;go_wp2;go_round
    case rel=>exact ⟨k+1,by omega,by go_num,HA,HB⟩
    case measure=>simp [intOf];omega
   ·have lF:(z != 0)=true:=by simpa using h0
    have HF:Hid (or2 a b=z):=by show _=_;rw [Hz.out,if_neg (by simp [h0])]
    clear h0;go_wp2;go_ret;exact ⟨zx HF.out.symm,rfl⟩
  ·have HF:Hid (or2 a b=0):=by show _=_;unfold or2;rw [if_pos (Ha.out (by omega))];exact Hb.out (by omega)
   clear c0 c1;go_wp2;go_ret;exact ⟨zx HF.out.symm,rfl⟩
def byD (x y:En):Int:=or2 (au x.rep y.rep) (au x.num y.num)
def ahead (x y:En):Bool:=decide (x.rep < y.rep) || (x.rep == y.rep && decide (x.num < y.num))
theorem yr {n:Nat} {w w':World} (h:Below n w w'):Below n w w'.drew:=h.trans ⟨rfl,rfl,rfl,Nat.le_refl _,fun _ _=>rfl⟩
theorem ze (w:World) (o:Obj):Below w.heap.size w (w.alloc o):=(Below.refl _ _).alloc (Nat.le_refl _) _
structure Two (w W:World) (x y:En):Prop where
 below:Below w.heap.size w W
 size:w.heap.size+2 <= W.heap.size
 a0:W.cell? ⟨w.heap.size,0,none⟩=some (.int .i64 x.rep)
 a1:W.cell? ⟨w.heap.size,1,none⟩=some (.int .i64 x.num)
 b0:W.cell? ⟨w.heap.size+1,0,none⟩=some (.int .i64 y.rep)
 b1:W.cell? ⟨w.heap.size+1,1,none⟩=some (.int .i64 y.num)
theorem Two.start (w:World) (x y:En):Two w ((w.alloc (.cells #[.int .i64 x.rep,.int .i64 x.num,.string x.sku,.int .i64 x.qty] 66)).alloc (.cells #[.int .i64 y.rep,.int .i64 y.num,.string y.sku,.int .i64 y.qty] 66)) x y:=
 ⟨(ze w _).trans ((ze _ _).mono (by simp)),by simp,by simp,by simp,by simp,by simp⟩
theorem Two.on {w W W':World} {x y:En} (h:Two w W x y) (hb:Below W.heap.size W W'):Two w W' x y:=
 ⟨h.below.trans (hb.mono h.below.size),Nat.le_trans h.size hb.size,(hb.cell (World.block_lt_of_cell? _ _ h.a0)).trans h.a0,(hb.cell (World.block_lt_of_cell? _ _ h.a1)).trans h.a1,(hb.cell (World.block_lt_of_cell? _ _ h.b0)).trans h.b0,(hb.cell (World.block_lt_of_cell? _ _ h.b1)).trans h.b1⟩
theorem zft (a b:Int) (w:World) (g:Nat) (hg:w.heap.size=g):Calls Tryz.prog 121 #[.slice (some ⟨g,0,none⟩) 2 2] (w.alloc (.cells #[.int .i64 a,.int .i64 b] 3)) fun e w'=>e = .returned (.int .i64 (or2 a b))/\w'=w.alloc (.cells #[.int .i64 a,.int .i64 b] 3):=by
 subst hg;exact zcW w.heap.size a b _ (by simp) (by simp)
theorem zdJ (x y:En) (w:World):Calls Tryz.prog 82 #[enV x,enV y] w fun e w'=>e = .returned (.int .i64 (byD x y))/\Below w.heap.size w w':=by
 have T0:=hide (Two.start w x y);obtain ⟨w0,mh⟩:∃ w0,Hid ((w.alloc (.cells #[.int .i64 x.rep,.int .i64 x.num,.string x.sku,.int .i64 x.qty] 66)).alloc (.cells #[.int .i64 y.rep,.int .i64 y.num,.string y.sku,.int .i64 y.qty] 66)=w0):=⟨_,rfl⟩;rw [mh.out] at T0;have c1:=T0.out.a0;have c2:=T0.out.a1;have c3:=T0.out.b0;have c4:=T0.out.b1;obtain ⟨p,Hp⟩:∃ p,Hid (au x.rep y.rep=p):=⟨_,rfl⟩;obtain ⟨q,Hq⟩:∃ q,Hid (au x.num y.num=q):=⟨_,rfl⟩
 have C1:Hid (∀ W,Calls Tryz.prog 122 #[.int .i64 x.rep,.int .i64 y.rep] W fun e w'=>e = .returned (.int .i64 p)/\w'=W):=fun W=>by rw [<- Hp.out];exact qQ _ _ W
 have C2:Hid (∀ W,Calls Tryz.prog 122 #[.int .i64 x.num,.int .i64 y.num] W fun e w'=>e = .returned (.int .i64 q)/\w'=W):=fun W=>by rw [<- Hq.out];exact qQ _ _ W
 have HF:Hid (or2 p q=byD x y):=by show _=_;unfold byD;rw [Hp.out,Hq.out]
 have T1:Hid (Two w (w0.drew.alloc (.cells #[.int .i64 p,.int .i64 q] 3)) x y):=(T0.out.on (yr (Below.refl _ _))).on (ze _ _);have HO:=hide (zft p q w0.drew w0.heap.size rfl);obtain ⟨r,m,s,q⟩:=x;obtain ⟨r',m',s',q'⟩:=y;go_enter Tryz.func82,Tryz.ntmps82;go_wp2_with fail;rw [mh.out]
 first | (go_region_held (fun W=>W.cell? ⟨w.heap.size,0,none⟩=some (.int .i64 r)/\W.cell? ⟨w.heap.size,1,none⟩=some (.int .i64 m)/\W.cell? ⟨w.heap.size+1,0,none⟩=some (.int .i64 r')/\W.cell? ⟨w.heap.size+1,1,none⟩=some (.int .i64 m')) (first | exact ⟨T1.out.a0,T1.out.a1,T1.out.b0,T1.out.b1⟩ | go_keep) (first | (go_at_call_of 122 r;refine (C1.out _).mono ?_;rintro e w' ⟨rfl,rfl⟩) | (go_at_call_of 122 m;refine (C2.out _).mono ?_;rintro e w' ⟨rfl,rfl⟩) | (go_at_call 121;refine HO.out.mono ?_;rintro e w' ⟨rfl,rfl⟩))) | fail
 all_goals (go_wp2_with fail)
 all_goals go_ret
 all_goals exact ⟨zx HF.out,T1.out.below⟩
end
section
open Go.RowKit

def EC (e:En):Array Value:=#[.int .i64 e.rep,.int .i64 e.num,.string e.sku,.int .i64 e.qty]
abbrev EV (e:En):Value:=.agg (EC e)
theorem zB (e:En):(EC e).size=4:=rfl
theorem yv (e:En):∀ v∈(EC e).toList,v.oneCell'=true:=by
 intro v hv;simp [EC] at hv;rcases hv with rfl | rfl | rfl | rfl <;> rfl
theorem zs (e:En):(EV e).cells=EC e:=by simp [Value.cells]
def en0:En:=⟨0,0,⟨#[]⟩,0⟩
theorem zC:(#[.int .i64 0,.int .i64 0,.string ⟨#[]⟩,.int .i64 0]:Array Value)=EC en0:=rfl
structure gB (w:World) (p:Addr) (e:En):Prop where
 c0:w.cell? p=some (.int .i64 e.rep)
 c1:w.cell? (p.add 1)=some (.int .i64 e.num)
 c2:w.cell? (p.add 2)=some (.string e.sku)
 c3:w.cell? (p.add 3)=some (.int .i64 e.qty)
theorem add_zero (p:Addr):p.add 0=p:=by unfold Addr.add;split <;> simp_all
theorem zp (p:Addr) (m:Nat):(p.add m).block=p.block:=by unfold Addr.add;split <;> rfl
theorem gB.on {w w':World} {p:Addr} {e:En} (S:gB w p e) (hb:Below w.heap.size w w'):gB w' p e:=by
 have h0:=World.block_lt_of_cell? _ _ S.c0;exact ⟨by rw [hb.cell h0];exact S.c0,by rw [hb.cell (by rw [zp];exact h0)];exact S.c1,by rw [hb.cell (by rw [zp];exact h0)];exact S.c2,by rw [hb.cell (by rw [zp];exact h0)];exact S.c3⟩
def Box (w:World) (g:Nat) (T:TypeId) (e:En):Prop:=w.heap[g]? = some (.cells (EC e) T (0,0))
theorem Box.lt {w:World} {g:Nat} {T:TypeId} {e:En} (h:Box w g T e):g < w.heap.size:=(Array.getElem?_eq_some_iff.1 h).1
theorem Box.at {w:World} {g:Nat} {T:TypeId} {e:En} (h:Box w g T e):gB w ⟨g,0,none⟩ e:=by
 unfold Box at h;refine ⟨?_,?_,?_,?_⟩ <;> simp [Addr.add,World.cell?,h,EC]
theorem Box.below {w w':World} {g:Nat} {T:TypeId} {e:En} (h:Box w g T e) (hb:Below w.heap.size w w'):Box w' g T e:=(hb.block g h.lt).trans h
theorem qx (w:World) (T:TypeId) (e:En):Box (w.alloc (.cells (EC e) T)) w.heap.size T e:=by unfold Box;rw [heap_alloc_new]

def eR (v:Value):Sem Value:=Instr.loadAt 66 v
theorem zu (v:Value):Instr.loadAt 66 v=eR v:=rfl
def lW (p v:Value):Sem Unit:=Instr.storeAt 66 p v
theorem zt (p v:Value):Instr.storeAt 66 p v=lW p v:=rfl
theorem gD:(Tryz.prog.info? 66).map (·.size)=some 4:=by kernel_rfl
theorem zbf {w:World} {p:Addr} {e:En} (A:gB w p e):(loadVar 66 p).run Tryz.prog w = .ok (EV e) w:=by
 have hl:=run_loadCells_list (P:=Tryz.prog) (w:=w) p (EC e).toList (fun j v hv=>by
  match j,hv with
  | 0,hv=>cases hv;rw [add_zero];exact A.c0
  | 1,hv=>cases hv;exact A.c1
  | 2,hv=>cases hv;exact A.c2
  | 3,hv=>cases hv;exact A.c3
  | j+4,hv=>simp [EC] at hv)
 cases hq:Tryz.prog.info? 66 with
 | none=>have:=gD;simp [hq] at this
 | some x =>
  have hs:x.size=4:=by have:=gD;simpa [hq] using this
  have eL:(isAgg 66).run Tryz.prog w = .ok true w:=by
   unfold isAgg;rw [Sem.run_bind,run_underlying Tryz.underlying66 w];rfl
  have e4:(EC e).toList.length=4:=rfl;rw [e4] at hl;simp [loadVar,Sem.run_bind,eL,sizeOf,typeInfo,hq,hs,hl,EV]
theorem zX {w:World} {p:Addr} {e:En} (A:gB w p e):(eR (.pointer (some p))).run Tryz.prog w = .ok (EV e) w:=by
 unfold eR;simp only [Instr.loadAt,Instr.sureAddr,Sem.run_bind,Sem.run_pure,Result.andThen];exact zbf A
theorem zd7 {w:World} {g:Nat} {T:TypeId} {e e':En} (A:Box w g T e) :
  (lW (.pointer (some ⟨g,0,none⟩)) (EV e')).run Tryz.prog w = .ok () (w.setRow g (EC e')):=by
 unfold lW;have h:=run_storeCells_from (P:=Tryz.prog) g T (EC e').toList 0 (EC e) w A (by simp [EC]) (yv e')
 cases hq:Tryz.prog.info? 66 with
 | none=>have:=gD;simp [hq] at this
 | some x =>
  have hs:x.size=4:=by have:=gD;simpa [hq] using this
  simp only [Instr.storeAt,Instr.sureAddr,Sem.run_bind,Sem.run_pure,Result.andThen,storeVar,sizeOf,typeInfo,zs,zB];simp at h;simp [h,hq,hs]
theorem Box.setRow {w:World} {g:Nat} {T:TypeId} {e e':En} (A:Box w g T e):Box (w.setRow g (EC e')) g T e':=setRow_heap w g _ _ _ _ A
theorem zg {w w':World} {n g:Nat} {cs:Array Value} (h:Below n w w') (hg:n <= g):Below n w (w'.setRow g cs):=
 h.trans ⟨rfl,rfl,rfl,by simp [World.setRow],fun k hk=>setRow_other _ _ _ _ (by omega)⟩
theorem gE (w:World) (e:En) (g:Nat) (hg:w.heap.size=g):∃ w':World,(lW (.pointer (some ⟨g,0,none⟩)) (EV e)).run Tryz.prog (w.alloc (.cells (EC en0) 66)) = .ok () w'/\Box w' g 66 e/\Below w.heap.size w w'/\w'.heap.size=w.heap.size+1:=by
 subst hg;refine ⟨_,zd7 (qx w 66 en0),(qx w 66 en0).setRow,zg (ze w _) (Nat.le_refl _),by simp [World.setRow]⟩

def aF (w:World) (ao:Option Addr) (m c:Nat) (L:List En):Prop:=
 L.length=m/\(ao=none -> m=0/\c=0)/\(∀ ad,ao=some ad -> ∀ t,t < m -> gB w (ad.add (t * 4)) (L.getD t en0))/\(∀ e∈L,e.sku.size <= maxLen)/\m <= 3518437208883
theorem aF.below {w w':World} {ao:Option Addr} {m c:Nat} {L:List En} (h:aF w ao m c L) (hb:Below w.heap.size w w'):aF w' ao m c L:=
 ⟨h.1,h.2.1,fun ad ha t ht=>(h.2.2.1 ad ha t ht).on hb,h.2.2.2⟩
theorem aF.at {w:World} {ao:Option Addr} {m c:Nat} {L:List En} (h:aF w ao m c L) (k:Nat) (hk:k < m):∃ ad,ao=some ad/\gB w (ad.add (k * 4)) (L.getD k en0):=by
 cases ao with
 | none=>have:=h.2.1 rfl;omega
 | some ad=>exact ⟨ad,rfl,h.2.2.1 ad rfl k hk⟩
theorem aF.sku {w:World} {ao:Option Addr} {m c:Nat} {L:List En} (h:aF w ao m c L) (k:Nat) (hk:k < m):(L.getD k en0).sku.size <= maxLen:=by
 have:L.getD k en0=L[k]'(by rw [h.1];exact hk):=by simp [List.getD,h.1,hk]
 rw [this];exact h.2.2.2.1 _ (List.getElem_mem _)
theorem aF.none (w:World):aF w none 0 0 []:=⟨rfl,fun _=>⟨rfl,rfl⟩,(fun ad h=>by cases h),(fun e he=>by cases he),by omega⟩
theorem be (e:En) (w:World) (hs:e.sku.size <= maxLen):Calls Tryz.prog 81 #[EV e] w fun x w'=>x = .returned (.int .i64 (ceE e))/\Below w.heap.size w w':=wB e w hs
theorem ze8 (x y:En) (w:World):Calls Tryz.prog 82 #[EV x,EV y] w fun e w'=>e = .returned (.int .i64 (byD x y))/\Below w.heap.size w w':=zdJ x y w
end
section
open Go.ChangeShapes Go.WideShapes Go.ChangeAt Go.RowKit Go.Joins

theorem own:ownKnob Tryz.prog.godebug=none:=by kernel_rfl
theorem nr:Tryz.prog.cellsOf 66=4:=by kernel_rfl
theorem sJ:Tryz.prog.cellsOf 64=2:=by kernel_rfl
theorem pr:Tryz.prog.cellsOf 3=1:=by kernel_rfl
theorem Ap:Tryz.prog.cellsOf 9=1:=by kernel_rfl
theorem iZ {α : Type} {l:List α} (h:l.length=2):∃ a b,l=[a,b]:=by
 match l,h with
 | [a,b],_=>exact ⟨a,b,rfl⟩
theorem iW {α : Type} {l:List α} (h:l.length=3):∃ a b c,l=[a,b,c]:=by
 match l,h with
 | [a,b,c],_=>exact ⟨a,b,c,rfl⟩
theorem tE {α : Type} {l:List α} (h:l.length=4):∃ a b c d,l=[a,b,c,d]:=by
 match l,h with
 | [a,b,c,d],_=>exact ⟨a,b,c,d,rfl⟩
theorem zb6 {H:Type} {enc:TypeId × Value -> H} {w:World} {base:Nat} {spare:Nat -> Bool} {held:Bool} {fuel:Nat} {cs:List Value} {x:DataW H × List MemPlace}
  (h:DataW.trod enc Tryz.prog w base spare held fuel 66 cs=some x):∃ e:En,cs=(EC e).toList/\e.sku.size <= maxLen:=by
 obtain ⟨xs,m,_,hx,fD,oJ,hf⟩:=DataW.trod_struct Tryz.underlying66 h;obtain ⟨v0,v1,v2,v3,rfl⟩:=tE (fD.trans nr);obtain ⟨y0,y1,y2,rfl⟩:=iW oJ;have t0:=hf 0 _ rfl;have t1:=hf 1 _ rfl;have t2:=hf 2 _ rfl;simp [pr,Ap,sJ] at t0 t1 t2;obtain ⟨xs',m',_,NC,MW,E4,Jl⟩:=DataW.trod_struct Tryz.underlying64 t0;obtain ⟨z0,z1,rfl⟩:=iZ E4;have s0:=Jl 0 _ rfl;have s1:=Jl 1 _ rfl;simp [pr] at s0 s1;obtain ⟨r,e0,-,_⟩:=DataW.trod_int Tryz.underlying3 s0;obtain ⟨n,e1,-,_⟩:=DataW.trod_int Tryz.underlying3 s1;obtain ⟨s,e2,-,w2⟩:=DataW.trod_string Tryz.underlying9 t1;obtain ⟨q,e3,-,_⟩:=DataW.trod_int Tryz.underlying3 t2;simp only [List.cons.injEq,and_true] at e0 e1 e2 e3;subst e0 e1 e2 e3;exact ⟨⟨r,n,s,q⟩,rfl,w2⟩
end
section
open Go.RowKit
attribute [local go_sem ↓] zu zt
attribute [local go_sem] zC zs
def okAt (L:List En) (k:Nat):Bool:=ceE (L.getD k en0) == 0 && (decide (k=0) || ahead (L.getD (k - 1) en0) (L.getD k en0))
def okN (L:List En) (k:Nat):Bool:=(List.range k).all (okAt L)
def chk (L:List En):Int:=if okN L L.length=true then 0 else 1
theorem vq (L:List En) (k:Nat):okN L (k+1)=(okN L k && okAt L k):=by unfold okN;rw [List.range_succ,List.all_append];simp
theorem zcY (L:List En) (k n:Nat) (h:k < n) (hs:okAt L k=false):okN L n=false:=by
 unfold okN;rw [List.all_eq_false];exact ⟨k,by simpa using h,by rw [hs];simp⟩
theorem zdK (x y:En):decide (0 <= byD x y) = !ahead x y:=by
 unfold byD ahead or2 au;by_cases h1:x.rep < y.rep
 ·simp [h1]
 ·by_cases h2:y.rep < x.rep
  ·have:¬ x.rep=y.rep:=by omega
   simp [h1,h2,this]
  ·have:x.rep=y.rep:=by omega
   by_cases h3:x.num < y.num
   ·simp [this,h3]
   ·by_cases h4:y.num < x.num
    ·simp [this,h3,h4]
    ·simp [this,h3,h4]

theorem qu (ao:Option Addr) (n cap:Nat) (L:List En) (w:World) (hS:aF w ao n cap L) :
  Calls Tryz.prog 57 #[.slice ao n cap] w fun e w'=>e = .returned (.int .i64 (chk L))/\Below w.heap.size w w':=by
 have HS:=hide hS;have hn:=hS.2.2.2.2;have HL:Hid (L.length=n):=hS.1;clear hS;go_enter Tryz.func57,Tryz.ntmps57;go_wp2_with fail;go_loopw [7] (fun i wr=>∃ k:Nat,k <= n/\i = .int .i64 k/\Hid (okN L k=true)/\Hid (Below w.heap.size w wr)) (fun i _=>n - (intOf i).toNat)
 case atStart=>exact ⟨0,Nat.zero_le _,rfl,rfl,Below.refl _ _⟩
 case round =>
  obtain ⟨k,hk,rfl,HK,HB⟩:=hrel;by_cases aq:k < n
  ·obtain ⟨ad,rfl,A0⟩:=(HS.out.below HB.out).at k aq;have dz:=zX A0;obtain ⟨e,He⟩:∃ e,Hid (L.getD k en0=e):=⟨_,rfl⟩;have gL:=HS.out.sku k aq;rw [He.out] at dz gL A0;obtain ⟨w1,cr,X1,B1,Z1⟩:=gE wr e wr.heap.size rfl;have HX:=hide X1;have aW:=hide B1;have pY:=hide gL;clear X1 B1 gL A0
   have le:∀ d os,(eR (.pointer (some ⟨wr.heap.size,0,none⟩))).run Tryz.prog (Sort.grow (redrawn w1 d) os) = .ok (EV e) (Sort.grow (redrawn w1 d) os):=fun d os=>zX (HX.out.below (below_regrown w1 d os)).at
   obtain ⟨c,Hc⟩:∃ c,Hid (ceE e=c):=⟨_,rfl⟩
   have cE:∀ d os,Calls Tryz.prog 81 #[EV e] (Sort.grow (redrawn w1 d) os) fun x w''=>x = .returned (.int .i64 c)/\∃ p:Regrown,w''=Sort.grow (redrawn w1 p.d) p.os:=fun d os=>by
    have:=be e (Sort.grow (redrawn w1 d) os) pY.out;rw [Hc.out] at this;exact Calls.regrown_of this
   by_cases h0:c=0
   ·have lF:(c != 0)=false:=by simpa using h0
    by_cases iA:k=0
    ·have HN:Hid (okN L (k+1)=true):=by show _=_;rw [vq,HK.out];unfold okAt;rw [He.out,Hc.out,h0];simp [iA]
     subst iA;rw [Nat.zero_mul,add_zero] at dz;clear h0;go_wp2_with fail;refine wp_region_quiet_below (by kernel_rfl) (by kernel_rfl) ?_
     repeat (with_reducible (refine wpQuiet_step ?_);intro K hK;go_simp;(try rw [if_neg (by unfold undef;simp)]);first | (with_reducible (refine hK _ ?_);clear hK K) | (apply Exists.intro;refine ⟨fun _=>?_,hK _ ?_⟩;(go_at_call 81;exact cE _ _);clear hK K))
     with_reducible (refine wpQuiet_nil ?_)
     intro _ hw';obtain ⟨⟨dq,osq⟩,hw''⟩:=hw';subst hw'';have dA:Hid (Below w.heap.size w (Sort.grow (redrawn w1 dq) osq)):=(HB.out.trans (aW.out.mono HB.out.size)).trans ((below_regrown w1 dq osq).mono (Nat.le_trans HB.out.size (by rw [Z1];omega)));go_wp2_with fail;go_roundw
     case rel=>exact ⟨0+1,by omega,by go_num,HN,dA⟩
     case measure=>simp [intOf];omega
    ·have sh:decide ((0:Int) < (k:Int))=true:=decide_eq_true (by omega)
     have nJ:0 < k:=by omega
     obtain ⟨j,hj⟩:∃ j,k - 1=j:=⟨_,rfl⟩
     have hz:IntKind.i64.wrap ((k:Int) - 1)=(j:Int):=by rw [IntKind.wrap_i64];omega
     have iR:j < n:=by omega
     have A1:=((HS.out.below HB.out).2.2.1 ad rfl j (by omega)).on aW.out;obtain ⟨e1,CQ⟩:∃ e1,Hid (L.getD j en0=e1):=⟨_,rfl⟩;rw [CQ.out] at A1;have FS:=hide A1;clear A1;have l1:∀ d os,(eR (.pointer (some (ad.add (j * 4))))).run Tryz.prog (Sort.grow (redrawn w1 d) os) = .ok (EV e1) (Sort.grow (redrawn w1 d) os):=fun d os=>zX (FS.out.on (below_regrown w1 d os));obtain ⟨q,Hq⟩:∃ q,Hid (byD e1 e=q):=⟨_,rfl⟩
     have cD:∀ d os,Calls Tryz.prog 82 #[EV e1,EV e] (Sort.grow (redrawn w1 d) os) fun x w''=>x = .returned (.int .i64 q)/\∃ p:Regrown,w''=Sort.grow (redrawn w1 p.d) p.os:=fun d os=>by
      have:=ze8 e1 e (Sort.grow (redrawn w1 d) os);rw [Hq.out] at this;exact Calls.regrown_of this
     have hq:=zdK e1 e;rw [Hq.out] at hq
     have iE:okAt L k=ahead e1 e:=by unfold okAt;rw [He.out,Hc.out,h0,hj,CQ.out];simp [iA]
     clear h0 iA;by_cases h1:0 <= q
     ·have HF:Hid (chk L=1):=by
       show _=_;unfold chk;rw [zcY L k _ (by rw [HL.out];exact aq) (by rw [iE];simpa [h1] using hq)];rfl
      clear hq iE;go_wp2_with fail;refine wp_region_quiet_below (by kernel_rfl) (by kernel_rfl) ?_
      repeat (with_reducible (refine wpQuiet_step ?_);intro K hK;go_simp;(try rw [if_neg (by unfold undef;simp)]);first | (with_reducible (refine hK _ ?_);clear hK K) | (apply Exists.intro;refine ⟨fun _=>?_,hK _ ?_⟩;(first | (go_at_call 81;exact cE _ _) | (go_at_call 82;exact cD _ _));clear hK K))
      with_reducible (refine wpQuiet_nil ?_)
      intro _ hw';obtain ⟨⟨dq,osq⟩,hw''⟩:=hw';subst hw'';have dA:Hid (Below w.heap.size w (Sort.grow (redrawn w1 dq) osq)):=(HB.out.trans (aW.out.mono HB.out.size)).trans ((below_regrown w1 dq osq).mono (Nat.le_trans HB.out.size (by rw [Z1];omega)));go_wp2_with fail;go_ret;exact ⟨zx HF.out.symm,dA.out⟩
     ·have HN:Hid (okN L (k+1)=true):=by show _=_;rw [vq,HK.out,iE];simpa [h1] using hq
      clear hq iE;go_wp2_with fail;refine wp_region_quiet_below (by kernel_rfl) (by kernel_rfl) ?_
      repeat (with_reducible (refine wpQuiet_step ?_);intro K hK;go_simp;(try rw [if_neg (by unfold undef;simp)]);first | (with_reducible (refine hK _ ?_);clear hK K) | (apply Exists.intro;refine ⟨fun _=>?_,hK _ ?_⟩;(first | (go_at_call 81;exact cE _ _) | (go_at_call 82;exact cD _ _));clear hK K))
      with_reducible (refine wpQuiet_nil ?_)
      intro _ hw';obtain ⟨⟨dq,osq⟩,hw''⟩:=hw';subst hw'';have dA:Hid (Below w.heap.size w (Sort.grow (redrawn w1 dq) osq)):=(HB.out.trans (aW.out.mono HB.out.size)).trans ((below_regrown w1 dq osq).mono (Nat.le_trans HB.out.size (by rw [Z1];omega)));go_wp2_with fail;go_roundw
      case rel=>exact ⟨k+1,by omega,by go_num,HN,dA⟩
      case measure=>simp [intOf];omega
   ·have lF:(c != 0)=true:=by simpa using h0
    have HF:Hid (chk L=1):=by
     show _=_;unfold chk;rw [zcY L k _ (by rw [HL.out];exact aq) (by unfold okAt;rw [He.out,Hc.out];simp [h0])];rfl
    clear h0;go_wp2_with fail;refine wp_region_quiet_below (by kernel_rfl) (by kernel_rfl) ?_
    repeat (with_reducible (refine wpQuiet_step ?_);intro K hK;go_simp;(try rw [if_neg (by unfold undef;simp)]);first | (with_reducible (refine hK _ ?_);clear hK K) | (apply Exists.intro;refine ⟨fun _=>?_,hK _ ?_⟩;(go_at_call 81;exact cE _ _);clear hK K))
    with_reducible (refine wpQuiet_nil ?_)
    intro _ hw';obtain ⟨⟨dq,osq⟩,hw''⟩:=hw';subst hw'';have dA:Hid (Below w.heap.size w (Sort.grow (redrawn w1 dq) osq)):=(HB.out.trans (aW.out.mono HB.out.size)).trans ((below_regrown w1 dq osq).mono (Nat.le_trans HB.out.size (by rw [Z1];omega)));go_wp2_with fail;go_ret;exact ⟨zx HF.out.symm,dA.out⟩
  ·obtain rfl:k=n:=by omega
   have HF:Hid (chk L=0):=by show _=_;unfold chk;rw [HL.out,HK.out];rfl
   go_wp2_with fail;go_ret;exact ⟨zx HF.out.symm,HB.out⟩
end
section
open Go.RowKit
attribute [local go_sem ↓] zu zt
attribute [local go_sem] zC zs
def DC (e:En):Array Value:=#[.int .i64 e.rep,.int .i64 e.num]
def io (v:Value):Sem Value:=Instr.loadAt 64 v
theorem qO (v:Value):Instr.loadAt 64 v=io v:=rfl
attribute [local go_sem ↓] qO
theorem pg:(Tryz.prog.info? 64).map (·.size)=some 2:=by kernel_rfl
theorem xw {w:World} {p:Addr} {e:En} (A:gB w p e):(io (.pointer (some p))).run Tryz.prog w = .ok (.agg (DC e)) w:=by
 have hl:=run_loadCells_list (P:=Tryz.prog) (w:=w) p (DC e).toList (fun j v hv=>by
  match j,hv with
  | 0,hv=>cases hv;rw [add_zero];exact A.c0
  | 1,hv=>cases hv;exact A.c1
  | j+2,hv=>simp [DC] at hv)
 unfold io;simp only [Instr.loadAt,Instr.sureAddr,Sem.run_bind,Sem.run_pure,Result.andThen]
 cases hq:Tryz.prog.info? 64 with
 | none=>have:=pg;simp [hq] at this
 | some x =>
  have hs:x.size=2:=by have:=pg;simpa [hq] using this
  have eL:(isAgg 64).run Tryz.prog w = .ok true w:=by
   unfold isAgg;rw [Sem.run_bind,run_underlying Tryz.underlying64 w];rfl
  have e4:(DC e).toList.length=2:=rfl;rw [e4] at hl;simp [loadVar,Sem.run_bind,eL,sizeOf,typeInfo,hq,hs,hl]

end
section
open Go.RowKit

theorem D6 {fn:Func} {p:Tmp} {w:World} {g:Nat} {T:TypeId} {e:En} (h:fn.results=#[.cell p 66]) {tmps:Array Value} (hp:tmps.getD p undef = .pointer (some ⟨g,0,none⟩)) (A:Box w g T e) :
  (results fn tmps).run Tryz.prog w = .ok (EV e) w:=by
 have hl:=zbf A.at
 simp only [results,h];rw [Array.getD_eq_getD_getElem?] at hp;simp [hp,asAddr,hl]
abbrev bA:ByteArray:=⟨#[65]⟩
abbrev bB:ByteArray:=⟨#[66]⟩
def KE:List En:=[⟨0,3,bA,5⟩,⟨1,1,bB,2⟩,⟨1,4,bA,1⟩]
def pD (w w':World) (e:Ending) (L:List En):Prop:=∃ ao n c,e = .returned (.slice ao n c)/\aF w' ao n c L/\Below w.heap.size w w'/\∀ ad,ao=some ad -> w.heap.size <= ad.block
end
section
open Go.RowKit
attribute [local go_sem ↓] zu zt
attribute [local go_sem] zC zs
def eqE (x y:En):Bool:=x.rep == y.rep && x.num == y.num && x.sku.toList == y.sku.toList && x.qty == y.qty
theorem zea (a b c d:Int) (w:World):(Op.equalIn 9999 64 (.agg #[.int .i64 a,.int .i64 b]) (.agg #[.int .i64 c,.int .i64 d])).run Tryz.prog w = .ok (a == c && b == d) w:=by
 have u3:=Tryz.underlying3;have a3:=Tryz.isAgg3;have z3:=Tryz.sizeOf3
 have hS:Tryz.prog.underlying 64=some (.struct (Tryz.prog.fieldsOf 64)):=by kernel_rfl
 have hp:Tryz.prog.stoodInHeld 64=false:=by kernel_rfl
 rw [show (9999:Nat)=9998+1 from rfl,run_equalIn_struct w 9998 64 _ _ hS hp];simp only [Program.fieldsOf,Tryz.underlying64];go_simp;by_cases h1:a=c <;> by_cases h2:b=d <;> simp [h1,h2]
theorem ql (x y:En) (w:World):(Op.equalIn 10000 66 (.agg (EC x)) (.agg (EC y))).run Tryz.prog w = .ok (eqE x y) w:=by
 have u3:=Tryz.underlying3;have a3:=Tryz.isAgg3;have z3:=Tryz.sizeOf3;have u9:=Tryz.underlying9;have a9:=Tryz.isAgg9;have z9:=Tryz.sizeOf9;have a26:=Tryz.isAgg64;have z26:=Tryz.sizeOf64
 have hS:Tryz.prog.underlying 66=some (.struct (Tryz.prog.fieldsOf 66)):=by kernel_rfl
 have hp:Tryz.prog.stoodInHeld 66=false:=by kernel_rfl
 obtain ⟨r,m,s,q⟩:=x;obtain ⟨r',m',s',q'⟩:=y;have Nf:=zea r m r' m'
 show (Op.equalIn 10000 66 (.agg #[.int .i64 r,.int .i64 m,.string s,.int .i64 q]) (.agg #[.int .i64 r',.int .i64 m',.string s',.int .i64 q'])).run Tryz.prog w = .ok (r == r' && m == m' && s.toList == s'.toList && q == q') w
 rw [show (10000:Nat)=9999+1 from rfl,run_equalIn_struct w 9999 66 _ _ hS hp];simp only [Program.fieldsOf,Tryz.underlying66];have h9:∀ w,(Op.equalIn 9999 9 (.string s) (.string s')).run Tryz.prog w = .ok (s.toList == s'.toList) w:=fun w=>run_equalIn_string w 9998 9 s s' Tryz.underlying9;have h3:∀ w,(Op.equalIn 9999 3 (.int .i64 q) (.int .i64 q')).run Tryz.prog w = .ok (q == q') w:=fun w=>run_equalIn_int w 9998 3 .i64 .i64 q q' Tryz.underlying3;obtain ⟨D,hD⟩:∃ D,9999=D:=⟨9999,rfl⟩;rw [hD] at Nf h9 h3 ⊢;go_simp;by_cases e1:r=r'
 ·by_cases e2:m=m'
  ·by_cases e3:s.toList=s'.toList
   ·by_cases e4:q=q'
    ·simp [e1,e2,e3,e4]
    ·simp [e1,e2,e3,e4]
   ·simp [e1,e2,e3]
  ·simp [e1,e2]
 ·simp [e1]
theorem yX (x:En):eqE x x=true:=by simp [eqE]
attribute [local go_sem ↓] ql
end
section
open Go.RowKit

def mK (e:En):Int:=e.rep * 1000000000+e.num
theorem zf8 {x y:En} (hx:ceE x=0) (hy:ceE y=0) (h:ahead x y=true):mK x < mK y:=by
 have bx:∀ z:En,ceE z=0 -> (0 <= z.rep/\z.rep < 16)/\1 <= z.num/\z.num <= 1000000000:=by
  intro z hz;unfold ceE at hz;by_cases h1:isR z.rep=false
  ·rw [if_pos h1] at hz;omega
  ·rw [if_neg h1] at hz;by_cases h2:z.num < 1∨1000000000 < z.num
   ·rw [if_pos h2] at hz;omega
   ·have i6:isR z.rep=true:=by simpa using h1
    unfold isR at i6;simp at i6;exact ⟨i6,by omega,by omega⟩
 have b1:=bx x hx;have b2:=bx y hy;simp [ahead] at h;unfold mK;omega
theorem zdx {z:En} (hz:ceE z=0):1 <= mK z/\mK z <= 16000000000:=by
 unfold ceE at hz;by_cases h1:isR z.rep=false
 ·rw [if_pos h1] at hz;omega
 ·rw [if_neg h1] at hz;by_cases h2:z.num < 1∨1000000000 < z.num
  ·rw [if_pos h2] at hz;omega
  ·have i6:isR z.rep=true:=by simpa using h1
   unfold isR at i6;simp at i6;unfold mK;omega
theorem ye (L:List En) (n:Nat) (h:okN L n=true) (k:Nat) (hk:k < n):okAt L k=true:=by
 unfold okN at h;exact List.all_eq_true.1 h k (List.mem_range.2 hk)
theorem y9 {L:List En} (h:chk L=0):okN L L.length=true:=by
 unfold chk at h;by_cases e:okN L L.length=true
 ·exact e
 ·rw [if_neg e] at h;omega
theorem zdD {L:List En} (h:chk L=0):L.length <= 16000000000:=by
 have ho:=y9 h
 have key:∀ k,k < L.length -> ((k:Nat):Int)+1 <= mK (L.getD k en0):=by
  intro k
  induction k with
  | zero =>
   intro hk;have:=ye L _ ho 0 hk;simp [okAt] at this;have:=zdx this;simpa using this.1
  | succ k ih =>
   intro hk;have h1:=ye L _ ho (k+1) hk;have h0:=ye L _ ho k (by omega);simp only [okAt,Bool.and_eq_true,beq_iff_eq,Bool.or_eq_true,decide_eq_true_eq,Nat.add_sub_cancel] at h0 h1
   have ha:ahead (L.getD k en0) (L.getD (k+1) en0)=true:=by
    rcases h1.2 with e | e
    ·omega
    ·exact e
   have:=zf8 h0.1 h1.1 ha;have:=ih (by omega);omega
 rcases Nat.eq_zero_or_pos L.length with h0 | h0
 ·omega
 ·have h1:=key (L.length - 1) (by omega);have h2:=ye L _ ho (L.length - 1) (by omega);simp only [okAt,Bool.and_eq_true,beq_iff_eq] at h2;have:=(zdx h2.1).2;omega
end
end Go.Proofs.YtcilfelgpmfehaaGreat.K
