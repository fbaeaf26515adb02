/- LEnt LCmp LRow LChk LRChk LSome LOwn LOwn2 -/
import Derived.Test.YtjffpimfngdggaaGreatFe14
import Derived.Deep.RegionHeld
import Derived.Lib.QuietBelow
import Derived.Laws.Cells
import Derived.Laws.Tables
import Derived.Laws.CopyOwn
import Derived.Lib.OthersKept
import Derived.Maps.AppendAt
set_option maxRecDepth 100000
set_option maxHeartbeats 1600000
namespace Go.Proofs.YtjffpimfngdggaaGreat.K
section
open Go.RowKit

structure En where
 rep:Int
 num:Int
 sku:ByteArray
 qty:Int
def enC (e:En):List Value:=[.int .i64 e.rep,.int .i64 e.num,.string e.sku,.int .i64 e.qty]
abbrev enV (e:En):Value:=.agg #[.int .i64 e.rep,.int .i64 e.num,.string e.sku,.int .i64 e.qty]
def isR (r:Int):Bool:=decide (0 <= r) && decide (r < 16)
def ceE (e:En):Int:=if isR e.rep=false then 3 else if e.num < 1∨1000000000 < e.num then 2 else if fG e.sku.data.toList=false then 5 else if e.qty < 1∨1000000 < e.qty then 6 else 0

theorem qw (r:Int) (w:World):Calls Tryz.prog 157 #[.int .i64 r] w fun e w'=>e = .returned (.bool (isR r))/\w'=w:=by
 go_enter Tryz.func157,Tryz.ntmps157;by_cases h0:0 <= r
 ·have HR:Hid (isR r=decide (r < 16)):=by show _=_;unfold isR;rw [decide_eq_true h0,Bool.true_and]
  go_wp2;go_ret;exact ⟨zu HR.out.symm,rfl⟩
 ·have HR:Hid (isR r=false):=by show _=_;unfold isR;rw [decide_eq_false h0,Bool.false_and]
  go_wp2;go_ret;exact ⟨zu HR.out.symm,rfl⟩

theorem yD (e:En) (w:World) (hs:e.sku.size <= maxLen):Calls Tryz.prog 103 #[enV e] w fun x w'=>x = .returned (.int .i64 (ceE e))/\Below w.heap.size w w':=by
 obtain ⟨r,m,s,q⟩:=e;have HB:Hid (Below w.heap.size w (w.alloc (.cells #[.int .i64 r,.int .i64 m,.string s,.int .i64 q] 50))):=(Below.refl _ _).alloc (Nat.le_refl _) _;have HS:Hid (s.size <= maxLen):=hs;clear hs;obtain ⟨x,Hx⟩:∃ x,Hid (isR r=x):=⟨_,rfl⟩;obtain ⟨g,Hg⟩:∃ g,Hid (fG s.data.toList=g):=⟨_,rfl⟩
 cases x with
 | false =>
  have HF:Hid (ceE ⟨r,m,s,q⟩=3):=by show _=_;unfold ceE;rw [if_pos Hx.out]
  go_enter Tryz.func103,Tryz.ntmps103;go_wp2_with (go_at_call 157;refine (qw r _).mono ?_;rintro e w' ⟨rfl,rfl⟩;rw [Hx.out]);go_ret;exact ⟨zH HF.out.symm,HB.out⟩
 | true =>
  have m9:0 <= r/\r < 16:=by have:=Hx.out;unfold isR at this;simpa using this
  have nf:¬ isR r=false:=by rw [Hx.out];simp
  by_cases h1:m < 1
  ·have HF:Hid (ceE ⟨r,m,s,q⟩=2):=by show _=_;unfold ceE;rw [if_neg nf,if_pos (Or.inl h1)]
   clear nf;go_enter Tryz.func103,Tryz.ntmps103;go_wp2_with (go_at_call 157;refine (qw r _).mono ?_;rintro e w' ⟨rfl,rfl⟩;rw [Hx.out]);go_ret;exact ⟨zH HF.out.symm,HB.out⟩
  by_cases h2:1000000000 < m
  ·have HF:Hid (ceE ⟨r,m,s,q⟩=2):=by show _=_;unfold ceE;rw [if_neg nf,if_pos (Or.inr h2)]
   clear nf;go_enter Tryz.func103,Tryz.ntmps103;go_wp2_with (go_at_call 157;refine (qw r _).mono ?_;rintro e w' ⟨rfl,rfl⟩;rw [Hx.out]);go_ret;exact ⟨zH HF.out.symm,HB.out⟩
  have pR:¬ (m < 1∨1000000000 < m):=by omega
  cases g with
  | false =>
   have HF:Hid (ceE ⟨r,m,s,q⟩=5):=by show _=_;unfold ceE;rw [if_neg nf,if_neg pR,if_pos Hg.out]
   clear nf pR;go_enter Tryz.func103,Tryz.ntmps103;go_wp2_with (first | (go_at_call 157;refine (qw r _).mono ?_;rintro e w' ⟨rfl,rfl⟩;rw [Hx.out]) | (go_at_call 86;refine (kQ s _ HS.out).mono ?_;rintro e w' ⟨rfl,rfl⟩;rw [Hg.out]));go_ret;exact ⟨zH HF.out.symm,HB.out⟩
  | true =>
   have mC:¬ fG s.data.toList=false:=by rw [Hg.out];simp
   by_cases h3:q < 1
   ·have HF:Hid (ceE ⟨r,m,s,q⟩=6):=by show _=_;unfold ceE;rw [if_neg nf,if_neg pR,if_neg mC,if_pos (Or.inl h3)]
    clear nf pR mC;go_enter Tryz.func103,Tryz.ntmps103;go_wp2_with (first | (go_at_call 157;refine (qw r _).mono ?_;rintro e w' ⟨rfl,rfl⟩;rw [Hx.out]) | (go_at_call 86;refine (kQ s _ HS.out).mono ?_;rintro e w' ⟨rfl,rfl⟩;rw [Hg.out]));go_ret;exact ⟨zH HF.out.symm,HB.out⟩
   by_cases h4:1000000 < q
   ·have HF:Hid (ceE ⟨r,m,s,q⟩=6):=by show _=_;unfold ceE;rw [if_neg nf,if_neg pR,if_neg mC,if_pos (Or.inr h4)]
    clear nf pR mC;go_enter Tryz.func103,Tryz.ntmps103;go_wp2_with (first | (go_at_call 157;refine (qw r _).mono ?_;rintro e w' ⟨rfl,rfl⟩;rw [Hx.out]) | (go_at_call 86;refine (kQ s _ HS.out).mono ?_;rintro e w' ⟨rfl,rfl⟩;rw [Hg.out]));go_ret;exact ⟨zH HF.out.symm,HB.out⟩
   have oZ:¬ (q < 1∨1000000 < q):=by omega
   have HF:Hid (ceE ⟨r,m,s,q⟩=0):=by show _=_;unfold ceE;rw [if_neg nf,if_neg pR,if_neg mC,if_neg oZ]
   clear nf pR mC oZ;go_enter Tryz.func103,Tryz.ntmps103;go_wp2_with (first | (go_at_call 157;refine (qw r _).mono ?_;rintro e w' ⟨rfl,rfl⟩;rw [Hx.out]) | (go_at_call 86;refine (kQ s _ HS.out).mono ?_;rintro e w' ⟨rfl,rfl⟩;rw [Hg.out]));go_ret;exact ⟨zH HF.out.symm,HB.out⟩
end
section
open Go.RowKit

def au (x y:Int):Int:=if x < y then -1 else if y < x then 1 else 0
theorem xV (x:Int) (w:World):Calls Tryz.prog 176 #[.int .i64 x] w fun e w'=>e = .returned (.bool false)/\w'=w:=by
 have h:(x != x)=false:=by simp
 go_enter Tryz.func176,Tryz.ntmps176;go_wp2_with fail;go_ret;exact ⟨by simp,rfl⟩
theorem qA (x y:Int) (w:World):Calls Tryz.prog 138 #[.int .i64 x,.int .i64 y] w fun e w'=>e = .returned (.int .i64 (au x y))/\w'=w:=by
 by_cases h1:x < y
 ·have HC:Hid (au x y = -1):=by show _=_;unfold au;rw [if_pos h1]
  go_enter Tryz.func138,Tryz.ntmps138;go_wp2_with (go_at_call 176;refine (xV _ _).mono ?_;rintro e w' ⟨rfl,rfl⟩);go_ret;exact ⟨zH HC.out.symm,rfl⟩
 ·by_cases h2:y < x
  ·have HC:Hid (au x y=1):=by show _=_;unfold au;rw [if_neg h1,if_pos h2]
   go_enter Tryz.func138,Tryz.ntmps138;go_wp2_with (go_at_call 176;refine (xV _ _).mono ?_;rintro e w' ⟨rfl,rfl⟩);go_ret;exact ⟨zH HC.out.symm,rfl⟩
  ·have HC:Hid (au x y=0):=by show _=_;unfold au;rw [if_neg h1,if_neg h2]
   go_enter Tryz.func138,Tryz.ntmps138;go_wp2_with (go_at_call 176;refine (xV _ _).mono ?_;rintro e w' ⟨rfl,rfl⟩);go_ret;exact ⟨zH HC.out.symm,rfl⟩
def or2 (a b:Int):Int:=if a=0 then b else a
theorem zes (g:Nat) (a b:Int) (w:World) (c0:w.cell? ⟨g,0,none⟩=some (.int .i64 a)) (c1:w.cell? ⟨g,1,none⟩=some (.int .i64 b)) :
  Calls Tryz.prog 137 #[.slice (some ⟨g,0,none⟩) 2 2] w fun e w'=>e = .returned (.int .i64 (or2 a b))/\w'=w:=by
 go_enter Tryz.func137,Tryz.ntmps137;go_wp2;go_loop [8] (fun i=>∃ k:Nat,k <= 2/\i = .int .i64 k/\Hid (0 < k -> a=0)/\Hid (1 < k -> b=0)) (fun i=>2 - (intOf i).toNat)
 case atStart=>exact ⟨0,Nat.zero_le _,rfl,fun h=>absurd h (by omega),fun h=>absurd h (by omega)⟩
 case round =>
  obtain ⟨k,hk,rfl,Ha,Hb⟩:=hrel;by_cases ak:k < 2
  ·obtain ⟨z,fV,Hz⟩:∃ z,w.cell? ⟨g,k,none⟩=some (.int .i64 z)/\Hid (or2 a b=if z=0/\k=0 then b else z):=by
    match k,ak,Ha with
    | 0,_,_=>exact ⟨a,c0,by show _=_;unfold or2;by_cases h:a=0 <;> simp [h]⟩
    | 1,_,Ha=>exact ⟨b,c1,by show _=_;unfold or2;rw [if_pos (Ha.out (by omega))];simp⟩
   have CH:Hid (z=0 -> (k=0 -> a=0)/\(k=1 -> b=0)):=by
    intro hz;constructor
    ·intro h;subst h;rw [c0] at fV;simpa [hz] using fV
    ·intro h;subst h;rw [c1] at fV;simpa [hz] using fV
   clear c0 c1;by_cases h0:z=0
   ·have hA:=(CH.out h0).1;have hB:=(CH.out h0).2
    have HA:Hid (0 < k+1 -> a=0):=by intro _;by_cases gK:k=0;exact hA gK;exact Ha.out (by omega)
    have HB:Hid (1 < k+1 -> b=0):=by intro _;exact hB (by omega)
    have mF:(z != 0)=false:=by simpa using h0
    clear h0 hA hB;go_wp2;go_round
    case rel=>exact ⟨k+1,by omega,by go_num,HA,HB⟩
    case measure=>simp [intOf];omega
   ·have mF:(z != 0)=true:=by simpa using h0
    have HF:Hid (or2 a b=z):=by show _=_;rw [Hz.out,if_neg (by simp [h0])]
    clear h0;go_wp2;go_ret;exact ⟨zH HF.out.symm,rfl⟩
  ·have HF:Hid (or2 a b=0):=by show _=_;unfold or2;rw [if_pos (Ha.out (by omega))];exact Hb.out (by omega)
   clear c0 c1;go_wp2;go_ret;exact ⟨zH HF.out.symm,rfl⟩
def byD (x y:En):Int:=or2 (au x.rep y.rep) (au x.num y.num)
def ahead (x y:En):Bool:=decide (x.rep < y.rep) || (x.rep == y.rep && decide (x.num < y.num))
theorem bf {n:Nat} {w w':World} (h:Below n w w'):Below n w w'.drew:=h.trans ⟨rfl,rfl,rfl,Nat.le_refl _,fun _ _=>rfl⟩
theorem ze (w:World) (o:Obj):Below w.heap.size w (w.alloc o):=(Below.refl _ _).alloc (Nat.le_refl _) _
structure Two (w W:World) (x y:En):Prop where
 below:Below w.heap.size w W
 size:w.heap.size+2 <= W.heap.size
 a0:W.cell? ⟨w.heap.size,0,none⟩=some (.int .i64 x.rep)
 a1:W.cell? ⟨w.heap.size,1,none⟩=some (.int .i64 x.num)
 b0:W.cell? ⟨w.heap.size+1,0,none⟩=some (.int .i64 y.rep)
 b1:W.cell? ⟨w.heap.size+1,1,none⟩=some (.int .i64 y.num)
theorem Two.start (w:World) (x y:En):Two w ((w.alloc (.cells #[.int .i64 x.rep,.int .i64 x.num,.string x.sku,.int .i64 x.qty] 50)).alloc (.cells #[.int .i64 y.rep,.int .i64 y.num,.string y.sku,.int .i64 y.qty] 50)) x y:=
 ⟨(ze w _).trans ((ze _ _).mono (by simp)),by simp,by simp,by simp,by simp,by simp⟩
theorem Two.on {w W W':World} {x y:En} (h:Two w W x y) (hb:Below W.heap.size W W'):Two w W' x y:=
 ⟨h.below.trans (hb.mono h.below.size),Nat.le_trans h.size hb.size,(hb.cell (World.block_lt_of_cell? _ _ h.a0)).trans h.a0,(hb.cell (World.block_lt_of_cell? _ _ h.a1)).trans h.a1,(hb.cell (World.block_lt_of_cell? _ _ h.b0)).trans h.b0,(hb.cell (World.block_lt_of_cell? _ _ h.b1)).trans h.b1⟩
theorem zht (a b:Int) (w:World) (g:Nat) (hg:w.heap.size=g):Calls Tryz.prog 137 #[.slice (some ⟨g,0,none⟩) 2 2] (w.alloc (.cells #[.int .i64 a,.int .i64 b] 3)) fun e w'=>e = .returned (.int .i64 (or2 a b))/\w'=w.alloc (.cells #[.int .i64 a,.int .i64 b] 3):=by
 subst hg;exact zes w.heap.size a b _ (by simp) (by simp)
theorem zfo (x y:En) (w:World):Calls Tryz.prog 104 #[enV x,enV y] w fun e w'=>e = .returned (.int .i64 (byD x y))/\Below w.heap.size w w':=by
 have T0:=hide (Two.start w x y);obtain ⟨w0,mU⟩:∃ w0,Hid ((w.alloc (.cells #[.int .i64 x.rep,.int .i64 x.num,.string x.sku,.int .i64 x.qty] 50)).alloc (.cells #[.int .i64 y.rep,.int .i64 y.num,.string y.sku,.int .i64 y.qty] 50)=w0):=⟨_,rfl⟩;rw [mU.out] at T0;have c1:=T0.out.a0;have c2:=T0.out.a1;have c3:=T0.out.b0;have c4:=T0.out.b1;obtain ⟨p,Hp⟩:∃ p,Hid (au x.rep y.rep=p):=⟨_,rfl⟩;obtain ⟨q,Hq⟩:∃ q,Hid (au x.num y.num=q):=⟨_,rfl⟩
 have C1:Hid (∀ W,Calls Tryz.prog 138 #[.int .i64 x.rep,.int .i64 y.rep] W fun e w'=>e = .returned (.int .i64 p)/\w'=W):=fun W=>by rw [<- Hp.out];exact qA _ _ W
 have C2:Hid (∀ W,Calls Tryz.prog 138 #[.int .i64 x.num,.int .i64 y.num] W fun e w'=>e = .returned (.int .i64 q)/\w'=W):=fun W=>by rw [<- Hq.out];exact qA _ _ W
 have HF:Hid (or2 p q=byD x y):=by show _=_;unfold byD;rw [Hp.out,Hq.out]
 have T1:Hid (Two w (w0.drew.alloc (.cells #[.int .i64 p,.int .i64 q] 3)) x y):=(T0.out.on (bf (Below.refl _ _))).on (ze _ _);have HO:=hide (zht p q w0.drew w0.heap.size rfl);obtain ⟨r,m,s,q⟩:=x;obtain ⟨r',m',s',q'⟩:=y;go_enter Tryz.func104,Tryz.ntmps104;go_wp2_with fail;rw [mU.out]
 first | (go_region_held (fun W=>W.cell? ⟨w.heap.size,0,none⟩=some (.int .i64 r)/\W.cell? ⟨w.heap.size,1,none⟩=some (.int .i64 m)/\W.cell? ⟨w.heap.size+1,0,none⟩=some (.int .i64 r')/\W.cell? ⟨w.heap.size+1,1,none⟩=some (.int .i64 m')) (first | exact ⟨T1.out.a0,T1.out.a1,T1.out.b0,T1.out.b1⟩ | go_keep) (first | (go_at_call_of 138 r;refine (C1.out _).mono ?_;rintro e w' ⟨rfl,rfl⟩) | (go_at_call_of 138 m;refine (C2.out _).mono ?_;rintro e w' ⟨rfl,rfl⟩) | (go_at_call 137;refine HO.out.mono ?_;rintro e w' ⟨rfl,rfl⟩))) | fail
 all_goals (go_wp2_with fail)
 all_goals go_ret
 all_goals exact ⟨zH HF.out,T1.out.below⟩
end
section
open Go.RowKit

def EC (e:En):Array Value:=#[.int .i64 e.rep,.int .i64 e.num,.string e.sku,.int .i64 e.qty]
abbrev EV (e:En):Value:=.agg (EC e)
theorem zF (e:En):(EC e).size=4:=rfl
theorem bk (e:En):∀ v∈(EC e).toList,v.oneCell'=true:=by
 intro v hv;simp [EC] at hv;rcases hv with rfl | rfl | rfl | rfl <;> rfl
theorem zt (e:En):(EV e).cells=EC e:=by simp [Value.cells]
def en0:En:=⟨0,0,⟨#[]⟩,0⟩
theorem zI:(#[.int .i64 0,.int .i64 0,.string ⟨#[]⟩,.int .i64 0]:Array Value)=EC en0:=rfl
structure gR (w:World) (p:Addr) (e:En):Prop where
 c0:w.cell? p=some (.int .i64 e.rep)
 c1:w.cell? (p.add 1)=some (.int .i64 e.num)
 c2:w.cell? (p.add 2)=some (.string e.sku)
 c3:w.cell? (p.add 3)=some (.int .i64 e.qty)
theorem add_zero (p:Addr):p.add 0=p:=by unfold Addr.add;split <;> simp_all
theorem zs (p:Addr) (m:Nat):(p.add m).block=p.block:=by unfold Addr.add;split <;> rfl
theorem gR.on {w w':World} {p:Addr} {e:En} (S:gR w p e) (hb:Below w.heap.size w w'):gR w' p e:=by
 have h0:=World.block_lt_of_cell? _ _ S.c0;exact ⟨by rw [hb.cell h0];exact S.c0,by rw [hb.cell (by rw [zs];exact h0)];exact S.c1,by rw [hb.cell (by rw [zs];exact h0)];exact S.c2,by rw [hb.cell (by rw [zs];exact h0)];exact S.c3⟩
def Box (w:World) (g:Nat) (T:TypeId) (e:En):Prop:=w.heap[g]? = some (.cells (EC e) T (0,0))
theorem Box.lt {w:World} {g:Nat} {T:TypeId} {e:En} (h:Box w g T e):g < w.heap.size:=(Array.getElem?_eq_some_iff.1 h).1
theorem Box.at {w:World} {g:Nat} {T:TypeId} {e:En} (h:Box w g T e):gR w ⟨g,0,none⟩ e:=by
 unfold Box at h;refine ⟨?_,?_,?_,?_⟩ <;> simp [Addr.add,World.cell?,h,EC]
theorem Box.below {w w':World} {g:Nat} {T:TypeId} {e:En} (h:Box w g T e) (hb:Below w.heap.size w w'):Box w' g T e:=(hb.block g h.lt).trans h
theorem zT (w:World) (T:TypeId) (e:En):Box (w.alloc (.cells (EC e) T)) w.heap.size T e:=by unfold Box;rw [heap_alloc_new]

def ek (v:Value):Sem Value:=Instr.loadAt 50 v
theorem zx (v:Value):Instr.loadAt 50 v=ek v:=rfl
def mO (p v:Value):Sem Unit:=Instr.storeAt 50 p v
theorem zw (p v:Value):Instr.storeAt 50 p v=mO p v:=rfl
theorem il:(Tryz.prog.info? 50).map (·.size)=some 4:=by kernel_rfl
theorem zcy {w:World} {p:Addr} {e:En} (A:gR w p e):(loadVar 50 p).run Tryz.prog w = .ok (EV e) w:=by
 have hl:=run_loadCells_list (P:=Tryz.prog) (w:=w) p (EC e).toList (fun j v hv=>by
  match j,hv with
  | 0,hv=>cases hv;rw [add_zero];exact A.c0
  | 1,hv=>cases hv;exact A.c1
  | 2,hv=>cases hv;exact A.c2
  | 3,hv=>cases hv;exact A.c3
  | j+4,hv=>simp [EC] at hv)
 cases hq:Tryz.prog.info? 50 with
 | none=>have:=il;simp [hq] at this
 | some x =>
  have hs:x.size=4:=by have:=il;simpa [hq] using this
  have dR:(isAgg 50).run Tryz.prog w = .ok true w:=by
   unfold isAgg;rw [Sem.run_bind,run_underlying Tryz.underlying50 w];rfl
  have e4:(EC e).toList.length=4:=rfl;rw [e4] at hl;simp [loadVar,Sem.run_bind,dR,sizeOf,typeInfo,hq,hs,hl,EV]
theorem zO {w:World} {p:Addr} {e:En} (A:gR w p e):(ek (.pointer (some p))).run Tryz.prog w = .ok (EV e) w:=by
 unfold ek;simp only [Instr.loadAt,Instr.sureAddr,Sem.run_bind,Sem.run_pure,Result.andThen];exact zcy A
theorem kB {w:World} {g:Nat} {T:TypeId} {e e':En} (A:Box w g T e) :
  (mO (.pointer (some ⟨g,0,none⟩)) (EV e')).run Tryz.prog w = .ok () (w.setRow g (EC e')):=by
 unfold mO;have h:=run_storeCells_from (P:=Tryz.prog) g T (EC e').toList 0 (EC e) w A (by simp [EC]) (bk e')
 cases hq:Tryz.prog.info? 50 with
 | none=>have:=il;simp [hq] at this
 | some x =>
  have hs:x.size=4:=by have:=il;simpa [hq] using this
  simp only [Instr.storeAt,Instr.sureAddr,Sem.run_bind,Sem.run_pure,Result.andThen,storeVar,sizeOf,typeInfo,zt,zF];simp at h;simp [h,hq,hs]
theorem Box.setRow {w:World} {g:Nat} {T:TypeId} {e e':En} (A:Box w g T e):Box (w.setRow g (EC e')) g T e':=setRow_heap w g _ _ _ _ A
theorem zh {w w':World} {n g:Nat} {cs:Array Value} (h:Below n w w') (hg:n <= g):Below n w (w'.setRow g cs):=
 h.trans ⟨rfl,rfl,rfl,by simp [World.setRow],fun k hk=>setRow_other _ _ _ _ (by omega)⟩
theorem made (w:World) (e:En) (g:Nat) (hg:w.heap.size=g):∃ w':World,(mO (.pointer (some ⟨g,0,none⟩)) (EV e)).run Tryz.prog (w.alloc (.cells (EC en0) 50)) = .ok () w'/\Box w' g 50 e/\Below w.heap.size w w'/\w'.heap.size=w.heap.size+1:=by
 subst hg;refine ⟨_,kB (zT w 50 en0),(zT w 50 en0).setRow,zh (ze w _) (Nat.le_refl _),by simp [World.setRow]⟩

def aD (w:World) (ao:Option Addr) (m c:Nat) (L:List En):Prop:=
 L.length=m/\(ao=none -> m=0/\c=0)/\(∀ ad,ao=some ad -> ∀ t,t < m -> gR w (ad.add (t * 4)) (L.getD t en0))/\(∀ e∈L,e.sku.size <= maxLen)/\m <= 3518437208883
theorem aD.below {w w':World} {ao:Option Addr} {m c:Nat} {L:List En} (h:aD w ao m c L) (hb:Below w.heap.size w w'):aD w' ao m c L:=
 ⟨h.1,h.2.1,fun ad ha t ht=>(h.2.2.1 ad ha t ht).on hb,h.2.2.2⟩
theorem aD.at {w:World} {ao:Option Addr} {m c:Nat} {L:List En} (h:aD w ao m c L) (k:Nat) (hk:k < m):∃ ad,ao=some ad/\gR w (ad.add (k * 4)) (L.getD k en0):=by
 cases ao with
 | none=>have:=h.2.1 rfl;omega
 | some ad=>exact ⟨ad,rfl,h.2.2.1 ad rfl k hk⟩
theorem aD.sku {w:World} {ao:Option Addr} {m c:Nat} {L:List En} (h:aD w ao m c L) (k:Nat) (hk:k < m):(L.getD k en0).sku.size <= maxLen:=by
 have:L.getD k en0=L[k]'(by rw [h.1];exact hk):=by simp [List.getD,h.1,hk]
 rw [this];exact h.2.2.2.1 _ (List.getElem_mem _)
theorem aD.none (w:World):aD w none 0 0 []:=⟨rfl,fun _=>⟨rfl,rfl⟩,(fun ad h=>by cases h),(fun e he=>by cases he),by omega⟩
theorem zay (e:En) (w:World) (hs:e.sku.size <= maxLen):Calls Tryz.prog 103 #[EV e] w fun x w'=>x = .returned (.int .i64 (ceE e))/\Below w.heap.size w w':=yD e w hs
theorem zg8 (x y:En) (w:World):Calls Tryz.prog 104 #[EV x,EV y] w fun e w'=>e = .returned (.int .i64 (byD x y))/\Below w.heap.size w w':=zfo x y w
end
section
open Go.RowKit
attribute [local go_sem ↓] zx zw
attribute [local go_sem] zI zt
def okAt (L:List En) (k:Nat):Bool:=ceE (L.getD k en0) == 0 && (decide (k=0) || ahead (L.getD (k - 1) en0) (L.getD k en0))
def okN (L:List En) (k:Nat):Bool:=(List.range k).all (okAt L)
def chk (L:List En):Int:=if okN L L.length=true then 0 else 1
theorem vZ (L:List En) (k:Nat):okN L (k+1)=(okN L k && okAt L k):=by unfold okN;rw [List.range_succ,List.all_append];simp
theorem zev (L:List En) (k n:Nat) (h:k < n) (hs:okAt L k=false):okN L n=false:=by
 unfold okN;rw [List.all_eq_false];exact ⟨k,by simpa using h,by rw [hs];simp⟩
theorem zfp (x y:En):decide (0 <= byD x y) = !ahead x y:=by
 unfold byD ahead or2 au;by_cases h1:x.rep < y.rep
 ·simp [h1]
 ·by_cases h2:y.rep < x.rep
  ·have:¬ x.rep=y.rep:=by omega
   simp [h1,h2,this]
  ·have:x.rep=y.rep:=by omega
   by_cases h3:x.num < y.num
   ·simp [this,h3]
   ·by_cases h4:y.num < x.num
    ·simp [this,h3,h4]
    ·simp [this,h3,h4]

theorem qv (ao:Option Addr) (n cap:Nat) (L:List En) (w:World) (hS:aD w ao n cap L) :
  Calls Tryz.prog 57 #[.slice ao n cap] w fun e w'=>e = .returned (.int .i64 (chk L))/\Below w.heap.size w w':=by
 have HS:=hide hS;have hn:=hS.2.2.2.2;have HL:Hid (L.length=n):=hS.1;clear hS;go_enter Tryz.func57,Tryz.ntmps57;go_wp2_with fail;go_loopw [7] (fun i wr=>∃ k:Nat,k <= n/\i = .int .i64 k/\Hid (okN L k=true)/\Hid (Below w.heap.size w wr)) (fun i _=>n - (intOf i).toNat)
 case atStart=>exact ⟨0,Nat.zero_le _,rfl,rfl,Below.refl _ _⟩
 case round =>
  obtain ⟨k,hk,rfl,HK,HB⟩:=hrel;by_cases ak:k < n
  ·obtain ⟨ad,rfl,A0⟩:=(HS.out.below HB.out).at k ak;have dK:=zO A0;obtain ⟨e,He⟩:∃ e,Hid (L.getD k en0=e):=⟨_,rfl⟩;have gk:=HS.out.sku k ak;rw [He.out] at dK gk A0;obtain ⟨w1,a8,X1,B1,Z1⟩:=made wr e wr.heap.size rfl;have HX:=hide X1;have aN:=hide B1;have uC:=hide gk;clear X1 B1 gk A0
   have le:∀ d os,(ek (.pointer (some ⟨wr.heap.size,0,none⟩))).run Tryz.prog (Sort.grow (redrawn w1 d) os) = .ok (EV e) (Sort.grow (redrawn w1 d) os):=fun d os=>zO (HX.out.below (below_regrown w1 d os)).at
   obtain ⟨c,Hc⟩:∃ c,Hid (ceE e=c):=⟨_,rfl⟩
   have cE:∀ d os,Calls Tryz.prog 103 #[EV e] (Sort.grow (redrawn w1 d) os) fun x w''=>x = .returned (.int .i64 c)/\∃ p:Regrown,w''=Sort.grow (redrawn w1 p.d) p.os:=fun d os=>by
    have:=zay e (Sort.grow (redrawn w1 d) os) uC.out;rw [Hc.out] at this;exact Calls.regrown_of this
   by_cases h0:c=0
   ·have mF:(c != 0)=false:=by simpa using h0
    by_cases gK:k=0
    ·have HN:Hid (okN L (k+1)=true):=by show _=_;rw [vZ,HK.out];unfold okAt;rw [He.out,Hc.out,h0];simp [gK]
     subst gK;rw [Nat.zero_mul,add_zero] at dK;clear h0;go_wp2_with fail;refine wp_region_quiet_below (by kernel_rfl) (by kernel_rfl) ?_
     repeat (with_reducible (refine wpQuiet_step ?_);intro K hK;go_simp;(try rw [if_neg (by unfold undef;simp)]);first | (with_reducible (refine hK _ ?_);clear hK K) | (apply Exists.intro;refine ⟨fun _=>?_,hK _ ?_⟩;(go_at_call 103;exact cE _ _);clear hK K))
     with_reducible (refine wpQuiet_nil ?_)
     intro _ hw';obtain ⟨⟨dq,osq⟩,hw''⟩:=hw';subst hw'';have eQ:Hid (Below w.heap.size w (Sort.grow (redrawn w1 dq) osq)):=(HB.out.trans (aN.out.mono HB.out.size)).trans ((below_regrown w1 dq osq).mono (Nat.le_trans HB.out.size (by rw [Z1];omega)));go_wp2_with fail;go_roundw
     case rel=>exact ⟨0+1,by omega,by go_num,HN,eQ⟩
     case measure=>simp [intOf];omega
    ·have gY:decide ((0:Int) < (k:Int))=true:=decide_eq_true (by omega)
     have oq:0 < k:=by omega
     obtain ⟨j,hj⟩:∃ j,k - 1=j:=⟨_,rfl⟩
     have hz:IntKind.i64.wrap ((k:Int) - 1)=(j:Int):=by rw [IntKind.wrap_i64];omega
     have od:j < n:=by omega
     have A1:=((HS.out.below HB.out).2.2.1 ad rfl j (by omega)).on aN.out;obtain ⟨e1,Kz⟩:∃ e1,Hid (L.getD j en0=e1):=⟨_,rfl⟩;rw [Kz.out] at A1;have Au:=hide A1;clear A1;have l1:∀ d os,(ek (.pointer (some (ad.add (j * 4))))).run Tryz.prog (Sort.grow (redrawn w1 d) os) = .ok (EV e1) (Sort.grow (redrawn w1 d) os):=fun d os=>zO (Au.out.on (below_regrown w1 d os));obtain ⟨q,Hq⟩:∃ q,Hid (byD e1 e=q):=⟨_,rfl⟩
     have cD:∀ d os,Calls Tryz.prog 104 #[EV e1,EV e] (Sort.grow (redrawn w1 d) os) fun x w''=>x = .returned (.int .i64 q)/\∃ p:Regrown,w''=Sort.grow (redrawn w1 p.d) p.os:=fun d os=>by
      have:=zg8 e1 e (Sort.grow (redrawn w1 d) os);rw [Hq.out] at this;exact Calls.regrown_of this
     have hq:=zfp e1 e;rw [Hq.out] at hq
     have iH:okAt L k=ahead e1 e:=by unfold okAt;rw [He.out,Hc.out,h0,hj,Kz.out];simp [gK]
     clear h0 gK;by_cases h1:0 <= q
     ·have HF:Hid (chk L=1):=by
       show _=_;unfold chk;rw [zev L k _ (by rw [HL.out];exact ak) (by rw [iH];simpa [h1] using hq)];rfl
      clear hq iH;go_wp2_with fail;refine wp_region_quiet_below (by kernel_rfl) (by kernel_rfl) ?_
      repeat (with_reducible (refine wpQuiet_step ?_);intro K hK;go_simp;(try rw [if_neg (by unfold undef;simp)]);first | (with_reducible (refine hK _ ?_);clear hK K) | (apply Exists.intro;refine ⟨fun _=>?_,hK _ ?_⟩;(first | (go_at_call 103;exact cE _ _) | (go_at_call 104;exact cD _ _));clear hK K))
      with_reducible (refine wpQuiet_nil ?_)
      intro _ hw';obtain ⟨⟨dq,osq⟩,hw''⟩:=hw';subst hw'';have eQ:Hid (Below w.heap.size w (Sort.grow (redrawn w1 dq) osq)):=(HB.out.trans (aN.out.mono HB.out.size)).trans ((below_regrown w1 dq osq).mono (Nat.le_trans HB.out.size (by rw [Z1];omega)));go_wp2_with fail;go_ret;exact ⟨zH HF.out.symm,eQ.out⟩
     ·have HN:Hid (okN L (k+1)=true):=by show _=_;rw [vZ,HK.out,iH];simpa [h1] using hq
      clear hq iH;go_wp2_with fail;refine wp_region_quiet_below (by kernel_rfl) (by kernel_rfl) ?_
      repeat (with_reducible (refine wpQuiet_step ?_);intro K hK;go_simp;(try rw [if_neg (by unfold undef;simp)]);first | (with_reducible (refine hK _ ?_);clear hK K) | (apply Exists.intro;refine ⟨fun _=>?_,hK _ ?_⟩;(first | (go_at_call 103;exact cE _ _) | (go_at_call 104;exact cD _ _));clear hK K))
      with_reducible (refine wpQuiet_nil ?_)
      intro _ hw';obtain ⟨⟨dq,osq⟩,hw''⟩:=hw';subst hw'';have eQ:Hid (Below w.heap.size w (Sort.grow (redrawn w1 dq) osq)):=(HB.out.trans (aN.out.mono HB.out.size)).trans ((below_regrown w1 dq osq).mono (Nat.le_trans HB.out.size (by rw [Z1];omega)));go_wp2_with fail;go_roundw
      case rel=>exact ⟨k+1,by omega,by go_num,HN,eQ⟩
      case measure=>simp [intOf];omega
   ·have mF:(c != 0)=true:=by simpa using h0
    have HF:Hid (chk L=1):=by
     show _=_;unfold chk;rw [zev L k _ (by rw [HL.out];exact ak) (by unfold okAt;rw [He.out,Hc.out];simp [h0])];rfl
    clear h0;go_wp2_with fail;refine wp_region_quiet_below (by kernel_rfl) (by kernel_rfl) ?_
    repeat (with_reducible (refine wpQuiet_step ?_);intro K hK;go_simp;(try rw [if_neg (by unfold undef;simp)]);first | (with_reducible (refine hK _ ?_);clear hK K) | (apply Exists.intro;refine ⟨fun _=>?_,hK _ ?_⟩;(go_at_call 103;exact cE _ _);clear hK K))
    with_reducible (refine wpQuiet_nil ?_)
    intro _ hw';obtain ⟨⟨dq,osq⟩,hw''⟩:=hw';subst hw'';have eQ:Hid (Below w.heap.size w (Sort.grow (redrawn w1 dq) osq)):=(HB.out.trans (aN.out.mono HB.out.size)).trans ((below_regrown w1 dq osq).mono (Nat.le_trans HB.out.size (by rw [Z1];omega)));go_wp2_with fail;go_ret;exact ⟨zH HF.out.symm,eQ.out⟩
  ·obtain rfl:k=n:=by omega
   have HF:Hid (chk L=0):=by show _=_;unfold chk;rw [HL.out,HK.out];rfl
   go_wp2_with fail;go_ret;exact ⟨zH HF.out.symm,HB.out⟩
end
section
open Go.RowKit
attribute [local go_sem ↓] zx zw
attribute [local go_sem] zI zt
def DC (e:En):Array Value:=#[.int .i64 e.rep,.int .i64 e.num]
def lj (v:Value):Sem Value:=Instr.loadAt 48 v
theorem xE (v:Value):Instr.loadAt 48 v=lj v:=rfl
attribute [local go_sem ↓] xE
theorem mf:(Tryz.prog.info? 48).map (·.size)=some 2:=by kernel_rfl
theorem xG {w:World} {p:Addr} {e:En} (A:gR w p e):(lj (.pointer (some p))).run Tryz.prog w = .ok (.agg (DC e)) w:=by
 have hl:=run_loadCells_list (P:=Tryz.prog) (w:=w) p (DC e).toList (fun j v hv=>by
  match j,hv with
  | 0,hv=>cases hv;rw [add_zero];exact A.c0
  | 1,hv=>cases hv;exact A.c1
  | j+2,hv=>simp [DC] at hv)
 unfold lj;simp only [Instr.loadAt,Instr.sureAddr,Sem.run_bind,Sem.run_pure,Result.andThen]
 cases hq:Tryz.prog.info? 48 with
 | none=>have:=mf;simp [hq] at this
 | some x =>
  have hs:x.size=2:=by have:=mf;simpa [hq] using this
  have dR:(isAgg 48).run Tryz.prog w = .ok true w:=by
   unfold isAgg;rw [Sem.run_bind,run_underlying Tryz.underlying48 w];rfl
  have e4:(DC e).toList.length=2:=rfl;rw [e4] at hl;simp [loadVar,Sem.run_bind,dR,sizeOf,typeInfo,hq,hs,hl]

end
section
open Go.RowKit

abbrev bA:ByteArray:=⟨#[65]⟩
abbrev bB:ByteArray:=⟨#[66]⟩
def K9:List En:=[⟨0,3,bA,5⟩,⟨1,1,bB,2⟩,⟨1,4,bA,1⟩]
def rB (w w':World) (e:Ending) (L:List En):Prop:=∃ ao n c,e = .returned (.slice ao n c)/\aD w' ao n c L/\Below w.heap.size w w'/\∀ ad,ao=some ad -> w.heap.size <= ad.block
end
section
open Go.RowKit

def ecs (L:List En):List Value:=(L.map (fun e=>(EC e).toList)).flatten
theorem yV (L R:List En):ecs (L++R)=ecs L++ecs R:=by simp [ecs]
theorem zid (e:En):ecs [e]=(EC e).toList:=by simp [ecs]
theorem jt (L:List En):(ecs L).length=L.length * 4:=by
 induction L with
 | nil=>rfl
 | cons a L ih=>have:ecs (a :: L)=(EC a).toList++ecs L:=rfl;rw [this,List.length_append,ih];simp [EC];omega
theorem zcZ (L:List En) (t j:Nat) (ht:t < L.length) (hj:j < 4):(ecs L)[t * 4+j]? = (EC (L.getD t en0)).toList[j]?:=by
 induction L generalizing t with
 | nil=>simp at ht
 | cons a L ih =>
  have e:ecs (a :: L)=(EC a).toList++ecs L:=rfl
  cases t with
  | zero=>rw [e,List.getElem?_append_left (by simp [EC];omega)];simp [List.getD]
  | succ t =>
   rw [e,List.getElem?_append_right (by simp [EC];omega)];have h:=ih t (by simpa using ht)
   have e4:(t+1) * 4+j - (EC a).toList.length=t * 4+j:=by simp [EC];omega
   rw [e4,h];simp [List.getD]
theorem me:(Tryz.prog.info? 50).map (fun i=>(i.zero,i.size,i.bytes))=some (some (.agg #[.int .i64 0,.int .i64 0,.string ⟨#[]⟩,.int .i64 0]),4,40):=by kernel_rfl

structure dU (B0 B:Nat) (w w':World) (ao:Option Addr) (cap:Nat) (acc:List En):Prop where
 own:w'.ownsRow B 50 4 (.slice ao acc.length cap) acc.length (ecs acc)
 below:Below B0 w w'
 hB:B <= w'.heap.size
 hB0:B0 <= B
theorem dU.nil {B0 B:Nat} {w w':World} (hb:Below B0 w w') (hB:B <= w'.heap.size) (h0:B0 <= B):dU B0 B w w' none 0 []:=
 ⟨World.ownsRow_nil _ _ _ _,hb,hB,h0⟩
theorem dU.append {B0 B:Nat} {w w':World} {ao:Option Addr} {cap:Nat} {acc:List En} (O:dU B0 B w w' ao cap acc) (e:En) (C:Array Value) (hC:C=EC e) (cF:acc.length < 3518437208883)
  {ops:Array Oper} {rest:List Oper} {o:Oper} {a:Act} {Q:Exit -> Act -> World -> Prop} (hgd:o.guard=none) (s x:Operand) (ho:o.op = .call { callee:=.builtin .append,args:=#[s,x],argTypes:=#[22,22] })
  (n:Nat) (hn:acc.length=n) (hs:a.eval s = .slice ao n cap) (hx:a.eval x = .slice (some ⟨w'.heap.size,0,none⟩) 1 1)
  (hK:∀ (g cap2:Nat) (w2:World),dU B0 B w w2 (some ⟨g,0,none⟩) cap2 (acc++[e]) -> (∀ k,k < B -> w2.heap[k]? = w'.heap[k]?) -> wpList Tryz.prog ops Q rest (a.put o.dst (.slice (some ⟨g,0,none⟩) (n+1) cap2)) w2) :
  wpList Tryz.prog ops Q (o :: rest) a (w'.alloc (.cells C 50)):=by
 subst hn hC;obtain ⟨i0,hi,dg,dn,ee⟩:=info_parts me;have hB:=O.hB;have hB0:=O.hB0;refine wpList_append_own _ hgd s x 22 ho B 50 i0 (.agg #[.int .i64 0,.int .i64 0,.string ⟨#[]⟩,.int .i64 0]) 4 40 Tryz.underlying22 hi dg dn ee rfl (by decide) _ acc.length (ecs acc) hs (O.own.alloc _) ⟨w'.heap.size,0,none⟩ 1 1 (EC e).toList hx (by simp [EC]) ?_ ?_ (by unfold maxLen;omega) (by omega) (by simp;omega) ?_
 ·intro j u hj;rw [Addr.add_lit,Nat.zero_add,World.cell?_alloc_new];simpa using hj
 ·intro u hu;exact bk e u hu
 ·intro v' w2 aM az _;rcases aM.2 with ⟨h0,fh⟩ | ⟨g,cap2,cur,hv,dN,dy,hnc,eV,hcsz,htake⟩
  ·omega
  ·subst hv;have dx:∀ k,(Value.slice ao acc.length cap).ownBlock=some k -> B <= k:=fun k hk=>(O.own.lt k hk).1;have dP:=az.size;rw [World.size_alloc] at dP;refine hK g cap2 w2 ⟨?_,(O.below.alloc (by omega) _).grown az (by simp;omega) (fun k hk=>by have:=dx k hk;omega),by omega,hB0⟩ (fun k hk=>?_)
   ·rw [List.length_append,yV,zid];exact aM
   ·rw [az.block k (by simp;omega) (fun e=>by have:=dx k e.symm;omega)];exact Below.heap_alloc _ _ _ (by omega)
theorem dU.later {B0 B:Nat} {w w' w2:World} {ao:Option Addr} {cap:Nat} {acc:List En} (O:dU B0 B w w' ao cap acc) (hb:Below w'.heap.size w' w2):dU B0 B w w2 ao cap acc:=by
 refine ⟨⟨O.own.1,?_⟩,O.below.trans (hb.mono (Nat.le_trans O.hB0 O.hB)),Nat.le_trans O.hB hb.size,O.hB0⟩;rcases O.own.2 with h | ⟨g,cap2,cur,hv,dN,dy,r⟩
 ·exact Or.inl h
 ·exact Or.inr ⟨g,cap2,cur,hv,dN,(hb.block g (Array.getElem?_eq_some_iff.1 dy).1).trans dy,r⟩
theorem dU.src {B0 B:Nat} {w w':World} {ao:Option Addr} {cap:Nat} {acc:List En} (O:dU B0 B w w' ao cap acc) (hs:∀ e∈acc,e.sku.size <= maxLen) (hl:acc.length <= 3518437208883):aD w' ao acc.length cap acc/\∀ ad,ao=some ad -> B <= ad.block:=by
 rcases O.own.2 with ⟨h0,fh⟩ | ⟨g,cap2,cur,hv,dN,dy,hnc,eV,hcsz,htake⟩
 ·simp only [Value.slice.injEq] at h0;obtain ⟨rfl,e0,rfl⟩:=h0;exact ⟨⟨rfl,fun _=>⟨fh,rfl⟩,fun ad h=>(by cases h),hs,hl⟩,fun ad h=>(by cases h)⟩
 ·simp only [Value.slice.injEq,true_and] at hv;obtain ⟨rfl,rfl⟩:=hv
  have cell:∀ t j,t < acc.length -> j < 4 -> w'.cell? ⟨g,t * 4+j,none⟩=(EC (acc.getD t en0)).toList[j]?:=fun t j ht hj=>by
   rw [O.own.cellAt (t * 4+j) (by omega),zcZ _ t j ht hj]
  refine ⟨⟨rfl,fun h=>(by cases h),fun ad h t ht=>?_,hs,hl⟩,fun ad h=>by obtain rfl:=Option.some.inj h;exact dN⟩;obtain rfl:=Option.some.inj h;refine ⟨?_,?_,?_,?_⟩
  ·rw [Addr.add_lit,Nat.zero_add];exact cell t 0 ht (by omega)
  ·rw [Addr.add_lit,Addr.add_lit,Nat.zero_add];exact cell t 1 ht (by omega)
  ·rw [Addr.add_lit,Addr.add_lit,Nat.zero_add];exact cell t 2 ht (by omega)
  ·rw [Addr.add_lit,Addr.add_lit,Nat.zero_add];exact cell t 3 ht (by omega)
end
section
open Go.RowKit

theorem xu (e:En):Array.foldl (fun cs x=>cs.setIfInBounds x.snd x.fst) (EC en0) (EC e).zipIdx 0 4=EC e:=rfl
theorem jm (L:List En) (k:Nat) (h:k < L.length):L.take (k+1)=L.take k++[L.getD k en0]:=by
 rw [List.take_succ_eq_append_getElem h];simp [List.getD,h]
theorem vh {w w2:World} {a:Addr} (h:w2.heap[a.block]? = w.heap[a.block]?):w2.cell? a=w.cell? a:=by
 unfold World.cell?;rw [h]
theorem aD.kept {w w2:World} {ao:Option Addr} {m c:Nat} {L:List En} (h:aD w ao m c L) (hk:∀ ad,ao=some ad -> w2.heap[ad.block]? = w.heap[ad.block]?):aD w2 ao m c L:=by
 refine ⟨h.1,h.2.1,fun ad ha t ht=>?_,h.2.2.2⟩;have A:=h.2.2.1 ad ha t ht;have hb:∀ j,w2.cell? ((ad.add (t * 4)).add j)=w.cell? ((ad.add (t * 4)).add j):=fun j=>vh (by rw [zs,zs];exact hk ad ha);have Cn:w2.cell? (ad.add (t * 4))=w.cell? (ad.add (t * 4)):=vh (by rw [zs];exact hk ad ha);exact ⟨Cn.trans A.c0,(hb 1).trans A.c1,(hb 2).trans A.c2,(hb 3).trans A.c3⟩
end
end Go.Proofs.YtjffpimfngdggaaGreat.K
