/- Shf RMr RNm RNo RSz RPk RCo -/
import Derived.Test.YtjffpimfngdggaaGreatTk
import Derived.Shelf.SlSortCmp.WholeK
import Derived.Test.YtjffpimfngdggaaGreatProg
import Derived.Test.YtjffpimfngdggaaGreatFe00
import Derived.Shelf.SlSortCmp.NoneTotal
import Derived.Shelf.SlicesQ.Reverse
import Derived.Lib.OwnBridge
set_option maxRecDepth 100000
set_option maxHeartbeats 4000000
namespace Go.Proofs
open Go.Shelf
def Tryz.sortR_ren:Go.Shelf.Ren:=⟨fun | 6=>182 | 15=>160 | 14=>217 | 28=>201 | 29=>202 | 20=>237 | 21=>238 | 22=>239 | 23=>240 | 24=>241 | 25=>242 | 26=>243 | 27=>244 | 46=>250 | 47=>228 | 48=>229 | 49=>251 | 50=>252 | 57=>262 | n=>n,fun | 22=>134 | 24=>182 | 25=>215 | 3=>3 | 39=>201 | 0=>0 | 53=>230 | 55=>232 | 4=>4 | 46=>223 | 45=>222 | 50=>174 | 5=>5 | 9=>9 | 66=>247 | 70=>251 | 76=>263 | 77=>132 | n=>n,fun | n=>n⟩
theorem Tryz.sortR:Go.Proofs.SlLaysF0.n6 Tryz.prog Tryz.sortR_ren:={
 mixed:=by kernel_rfl
 f6:=⟨Tryz.f182.name,by decide,Tryz.func182.trans (congrArg some (by kernel_rfl))⟩
 f14:=⟨Tryz.f217.name,by decide,Tryz.func217.trans (congrArg some (by kernel_rfl))⟩
 f15:=Tryz.func160.trans (congrArg some (by kernel_rfl))
 f20:=⟨Tryz.f237.name,by decide,Tryz.func237.trans (congrArg some (by kernel_rfl))⟩
 f21:=⟨Tryz.f238.name,by decide,Tryz.func238.trans (congrArg some (by kernel_rfl))⟩
 f22:=⟨Tryz.f239.name,by decide,Tryz.func239.trans (congrArg some (by kernel_rfl))⟩
 f23:=⟨Tryz.f240.name,by decide,Tryz.func240.trans (congrArg some (by kernel_rfl))⟩
 f24:=⟨Tryz.f241.name,by decide,Tryz.func241.trans (congrArg some (by kernel_rfl))⟩
 f25:=⟨Tryz.f242.name,by decide,Tryz.func242.trans (congrArg some (by kernel_rfl))⟩
 f26:=⟨Tryz.f243.name,by decide,Tryz.func243.trans (congrArg some (by kernel_rfl))⟩
 f27:=⟨Tryz.f244.name,by decide,Tryz.func244.trans (congrArg some (by kernel_rfl))⟩
 f28:=Tryz.func201.trans (congrArg some (by kernel_rfl))
 f29:=Tryz.func202.trans (congrArg some (by kernel_rfl))
 f46:=⟨Tryz.f250.name,by decide,Tryz.func250.trans (congrArg some (by kernel_rfl))⟩
 f47:=Tryz.func228.trans (congrArg some (by kernel_rfl))
 f48:=Tryz.func229.trans (congrArg some (by kernel_rfl))
 f49:=⟨Tryz.f251.name,by decide,Tryz.func251.trans (congrArg some (by kernel_rfl))⟩
 f50:=⟨Tryz.f252.name,by decide,Tryz.func252.trans (congrArg some (by kernel_rfl))⟩
 f57:=⟨Tryz.f262.name,by decide,Tryz.func262.trans (congrArg some (by kernel_rfl))⟩
 t0:=Tryz.underlying0
 a0:=Tryz.isAgg0
 z0:=Tryz.sizeOf0
 v0:=Tryz.zeroValue0
 t3:=Tryz.underlying3
 a3:=Tryz.isAgg3
 z3:=Tryz.sizeOf3
 v3:=Tryz.zeroValue3
 t4:=Tryz.underlying4
 a4:=Tryz.isAgg4
 z4:=Tryz.sizeOf4
 v4:=Tryz.zeroValue4
 t5:=Tryz.underlying5
 a5:=Tryz.isAgg5
 z5:=Tryz.sizeOf5
 v5:=Tryz.zeroValue5
 t9:=Tryz.underlying9
 a9:=Tryz.isAgg9
 z9:=Tryz.sizeOf9
 v9:=Tryz.zeroValue9
 t22:=Tryz.underlying134
 a22:=Tryz.isAgg134
 z22:=Tryz.sizeOf134
 v22:=Tryz.zeroValue134
 t25:=Tryz.underlying215
 a25:=Tryz.isAgg215
 z25:=Tryz.sizeOf215
 v25:=Tryz.zeroValue215
 t39:=Tryz.underlying201
 a39:=Tryz.isAgg201
 z39:=Tryz.sizeOf201
 v39:=Tryz.zeroValue201
 t45:=Tryz.underlying222
 a45:=Tryz.isAgg222
 z45:=Tryz.sizeOf222
 v45:=Tryz.zeroValue222
 t46:=Tryz.underlying223
 a46:=Tryz.isAgg223
 z46:=Tryz.sizeOf223
 v46:=Tryz.zeroValue223
 t50:=Tryz.underlying174
 a50:=Tryz.isAgg174
 z50:=Tryz.sizeOf174
 v50:=Tryz.zeroValue174
 t53:=Tryz.underlying230
 a53:=Tryz.isAgg230
 z53:=Tryz.sizeOf230
 v53:=Tryz.zeroValue230
 t55:=Tryz.underlying232
 a55:=Tryz.isAgg232
 z55:=Tryz.sizeOf232
 v55:=Tryz.zeroValue232
 t66:=Tryz.underlying247
 a66:=Tryz.isAgg247
 z66:=Tryz.sizeOf247
 v66:=Tryz.zeroValue247
 t70:=Tryz.underlying251
 a70:=Tryz.isAgg251
 z70:=Tryz.sizeOf251
 v70:=Tryz.zeroValue251
 t76:=Tryz.underlying263
 a76:=Tryz.isAgg263
 z76:=Tryz.sizeOf263
 v76:=Tryz.zeroValue263
 t77:=Tryz.underlying132
 a77:=Tryz.isAgg132
 z77:=Tryz.sizeOf132
 v77:=Tryz.zeroValue132 }
end Go.Proofs
namespace Go.Proofs.YtjffpimfngdggaaGreat
section
open Go.RowKit Go.Sort

def cM (r:Rn):List Value:=(RC r).toList
theorem wj (r:Rn):(cM r).length=2:=rfl
structure MR (W:World) (ad:Addr) (d:Array Rn):Prop where
 hk:HoldsK cM 2 W ad.block 0 d
 lt:ad.block < W.heap.size
 ha:ad=⟨ad.block,0,none⟩
theorem MR.at {W:World} {ad:Addr} {d:Array Rn} (M:MR W ad d) (i:Nat) (hi:i < d.size):gd W (ad.add (i * 2)) d[i]! := by
 have h:∀ c,c < 2 -> W.cell? ⟨ad.block,i * 2+c,none⟩=some (cM d[i]!)[c]! := fun c hc=>by
  have:=(M.hk.cell hi hc).1;rwa [Nat.zero_add] at this
 rw [M.ha,Addr.add_lit,Nat.zero_add];exact ⟨h 0 (by omega),by rw [Addr.add_lit];exact h 1 (by omega)⟩
theorem MR.rsrc {W:World} {ad:Addr} {d:Array Rn} (M:MR W ad d) (n c:Nat) (hn:d.size=n) (hc:n <= c) (eV:c <= maxLen) (hm:n <= 8796093022207):aX W (some ad) n c d.toList:=by
 refine ⟨by simpa using hn,fun h=>(by cases h),fun ad' h t ht=>?_,hc,eV,hm⟩;obtain rfl:=Option.some.inj h
 have e:d.toList.getD t rn0=d[t]! := by
  rw [List.getD,Array.getElem?_toList,Array.getElem?_eq_getElem (by omega),getElem!_pos d t (by omega)];rfl
 rw [e];exact M.at t (by omega)
theorem dI.mr {B0 B:Nat} {w w':World} {ad:Addr} {cap:Nat} {acc:List Rn} (O:dI B0 B w w' (some ad) cap acc):MR w' ad acc.toArray/\B <= ad.block/\acc.length <= cap/\cap <= maxLen:=by
 rcases O.own.2 with ⟨h0,_⟩ | ⟨g,c,cur,hv,dN,dy,hnc,eV,hcsz,htake⟩
 ·cases h0
 ·simp only [Value.slice.injEq,Option.some.injEq,true_and] at hv;obtain ⟨rfl,rfl⟩:=hv;refine ⟨⟨fun j hj=>?_,(Array.getElem?_eq_some_iff.1 dy).1,rfl⟩,dN,hnc,eV⟩;rw [Sort.size_flatK] at hj
  have KK:j < acc.length * 2:=by simpa using hj
  refine ⟨?_,by simp [World.frozen?,dy]⟩;rw [Nat.zero_add,O.own.cellAt j (by omega),Sort.get_flatK _ _ _ _ hj];have e4:=wT acc (j / 2) (j % 2) (by omega) (by omega);rw [show j / 2 * 2+j % 2=j by omega] at e4;rw [e4]
  have e5:acc.toArray[j / 2]! = acc.getD (j / 2) rn0:=by
   rw [getElem!_pos acc.toArray (j / 2) (by simp;omega)];simp [List.getD,show j / 2 < acc.length by omega]
  rw [e5]
  have:j % 2=0∨j % 2=1:=by omega
  rcases this with h | h <;> rw [h] <;> rfl
def au (x y:Int):Int:=if x < y then -1 else if y < x then 1 else 0
theorem xV (x:Int) (w:World):Calls Tryz.prog 176 #[.int .i64 x] w fun e w'=>e = .returned (.bool false)/\w'=w:=by
 have h:(x != x)=false:=by simp
 go_enter Tryz.func176,Tryz.ntmps176;go_wp2_with fail;go_ret;exact ⟨by simp,rfl⟩
theorem qA (x y:Int) (w:World):Calls Tryz.prog 138 #[.int .i64 x,.int .i64 y] w fun e w'=>e = .returned (.int .i64 (au x y))/\w'=w:=by
 by_cases h1:x < y
 ·have HC:Hid (au x y = -1):=by show _=_;unfold au;rw [if_pos h1]
  go_enter Tryz.func138,Tryz.ntmps138;go_wp2_with (go_at_call 176;refine (xV _ _).mono ?_;rintro e w' ⟨rfl,rfl⟩);go_ret;exact ⟨zH HC.out.symm,rfl⟩
 ·by_cases h2:y < x
  ·have HC:Hid (au x y=1):=by show _=_;unfold au;rw [if_neg h1,if_pos h2]
   go_enter Tryz.func138,Tryz.ntmps138;go_wp2_with (go_at_call 176;refine (xV _ _).mono ?_;rintro e w' ⟨rfl,rfl⟩);go_ret;exact ⟨zH HC.out.symm,rfl⟩
  ·have HC:Hid (au x y=0):=by show _=_;unfold au;rw [if_neg h1,if_neg h2]
   go_enter Tryz.func138,Tryz.ntmps138;go_wp2_with (go_at_call 176;refine (xV _ _).mono ?_;rintro e w' ⟨rfl,rfl⟩);go_ret;exact ⟨zH HC.out.symm,rfl⟩
def nH (x y:Rn):Int:=au x.lo y.lo
theorem zaC (x y:Rn):ltOf nH x y=decide (x.lo < y.lo):=by
 unfold ltOf nH au;by_cases h1:x.lo < y.lo
 ·simp [h1]
 ·by_cases h2:y.lo < x.lo <;> simp [h1,h2]
theorem zg6:SWO (ltOf nH) where
 irrefl x:=by rw [zaC];simp
 trans x y z h1 h2:=by rw [zaC] at *;simp at *;omega
 ntrans x y z h1 h2:=by rw [zaC] at *;simp at *;omega
def lW (w w':World):Prop:=∃ q os,w'=grow (w.drewN q) os
theorem zgx (w:World) (a b:Obj):lW w ((w.alloc a).alloc b):=by
 refine ⟨0,#[a]++#[b],?_⟩;rw [alloc_eq_grow (w.alloc a) b,alloc_eq_grow w a,grow_grow];rfl
theorem zg7 (x y:Rn) (w:World):Calls Tryz.prog 183 #[.agg #[.int .i64 x.lo,.int .i64 x.hi],.agg #[.int .i64 y.lo,.int .i64 y.hi]] w fun e w'=>e = .returned (.int .i64 (nH x y))/\lW w w':=by
 have HG:=hide (zgx w (.cells #[.int .i64 x.lo,.int .i64 x.hi] 182) (.cells #[.int .i64 y.lo,.int .i64 y.hi] 182));obtain ⟨p,Hp⟩:∃ p,Hid (nH x y=p):=⟨_,rfl⟩
 have HC:Hid (∀ W,Calls Tryz.prog 138 #[.int .i64 x.lo,.int .i64 y.lo] W fun e w'=>e = .returned (.int .i64 p)/\w'=W):=fun W=>by rw [<- Hp.out];exact qA _ _ W
 rw [Hp.out];go_enter Tryz.func183,Tryz.ntmps183;go_wp2_with (go_at_call 138;refine (HC.out _).mono ?_;rintro e w' ⟨rfl,rfl⟩);go_ret;exact ⟨rfl,HG.out⟩
theorem lS (blk size:Nat) (w:World):CmpLays Tryz.prog 183 #[] cM 2 nH blk 0 size w:=
 fun _ _ _ _ x y=>zg7 x y _
theorem jI (ad:Addr) (cap n:Nat) (d:Array Rn) (w:World) (M:MR w ad d) (hn:d.size=n) (hb:n <= 8796093022207) :
  Calls Tryz.prog 182 #[.slice (some ad) n cap,.func (.func 183) #[] #[]] w fun e w'=>e = .returned (.tuple #[])/\∃ d',d'.toList.Perm d.toList/\d'.toList.Pairwise (fun x y=>x.lo <= y.lo)/\d'.size=n/\MR w' ad d'/\Below ad.block w w':=by
 subst hn;have eg:∀ args w,(callFunc 183 args).run Tryz.prog w = .ok (.enter 183 args) w:=enters_of Tryz.func183 (by kernel_rfl) rfl;have h:=AnyQ.slices_SortFunc Tryz.sortR 2 Tryz.isAgg182 Tryz.sizeOf182 cM (fun _=>rfl) (fun x v hv=>jX x v hv) nH zg6 183 #[] ad.block 0 cap d w eg (lS ad.block d.size w) M.hk M.lt (by omega);rw [<- M.ha] at h;refine Calls.mono h ?_;rintro e w' ⟨rfl,d',m,os,⟨hs,_,hp⟩,As,rfl⟩;refine ⟨rfl,d',?_,?_,hs,⟨holdsK_sortWorldK_c cM 2 w ad.block 0 d d' m os M.hk M.lt hs,?_,M.ha⟩,?_⟩
 ·have e1:d'.extract 0 d.size=d':=by rw [<- hs];simp
  have e2:d.extract 0 d.size=d:=by simp
  rwa [e1,e2] at hp
 ·rw [List.pairwise_iff_getElem];intro i j hi hj pt;have:=As i j (Nat.zero_le _) pt (by rw [<- hs];simpa using hj);rw [zaC] at this;rw [getElem!_pos d' j (by simpa using hj),getElem!_pos d' i (by simpa using hi)] at this;simp only [Array.getElem_toList];simp at this;exact this
 ·have:=M.lt
  show ad.block < ((putRow id (Sort.ahead w m) ad.block 0 (flatK cM 2 d')).heap++os).size
  rw [Array.size_append,size_putRow]
  show ad.block < w.heap.size+os.size
  omega
 ·have h1:Below ad.block w (putRow id (Sort.ahead w m) ad.block 0 (flatK cM 2 d')):=Lib.below_putRow (Below.refl _ _) (Nat.le_refl _);refine h1.trans ?_
  have dP:ad.block <= (putRow id (Sort.ahead w m) ad.block 0 (flatK cM 2 d')).heap.size:=by rw [size_putRow];exact Nat.le_of_lt M.lt
  show Below ad.block _ (grow (putRow id (Sort.ahead w m) ad.block 0 (flatK cM 2 d')) os)
  generalize putRow id (Sort.ahead w m) ad.block 0 (flatK cM 2 d')=V at dP;exact ⟨rfl,rfl,rfl,by show _ <= (V.heap++os).size;rw [Array.size_append];omega,fun k hk=>by show (V.heap++os)[k]? = _;rw [Array.getElem?_append_left (by omega)]⟩
theorem rj (ao:Option Addr) (cap:Nat) (w:World):Calls Tryz.prog 182 #[.slice ao 0 cap,.func (.func 183) #[] #[]] w fun e w'=>e = .returned (.tuple #[])/\w'=w:=AnyF.slices_SortFunc_none Tryz.sortR ao cap _ w
end
section
open Go.RowKit
attribute [local go_sem ↓] kM ky
attribute [local go_sem] zS zC zN ql
theorem I8 {fn:Func} {p:Tmp} {w:World} {g:Nat} {T:TypeId} {r:Rn} (h:fn.results=#[.cell p 182]) {tmps:Array Value} (hp:tmps.getD p undef = .pointer (some ⟨g,0,none⟩)) (A:Box w g T r) :
  (results fn tmps).run Tryz.prog w = .ok (RV r) w:=by
 have hl:=zed A.at
 simp only [results,h];rw [Array.getD_eq_getD_getElem?] at hp;simp [hp,asAddr,hl]
theorem zgW (r:Rn) (w:World):Calls Tryz.prog 181 #[RV r] w fun e w'=>e = .returned (RV (gC r))/\Below w.heap.size w w':=by
 have B1:=ze w (.cells (RC r) 182);have HB:Hid (Below w.heap.size w ((w.alloc (.cells (RC r) 182)).alloc (.cells (RC rn0) 182))):=B1.trans ((ze _ _).mono B1.size);have X1:=(zT w 182 r).below (ze _ (.cells (RC rn0) 182));have X2:=zT (w.alloc (.cells (RC r) 182)) 182 rn0;rw [World.size_alloc] at X2;have c0:=X1.at.c0;have c1:((w.alloc (.cells (RC r) 182)).alloc (.cells (RC rn0) 182)).cell? ⟨w.heap.size,1,none⟩=some (.int .i64 r.hi):=X1.at.c1;have HX:=hide (X2.setRow (r':=gC r));have a8:(stR (.pointer (some ⟨w.heap.size+1,0,none⟩)) (.agg (((RC rn0).setIfInBounds 0 (.int .i64 (max r.lo 1))).setIfInBounds 1 (.int .i64 (min r.hi 1000000000))))).run Tryz.prog ((w.alloc (.cells (RC r) 182)).alloc (.cells (RC rn0) 182)) = .ok () (((w.alloc (.cells (RC r) 182)).alloc (.cells (RC rn0) 182)).setRow (w.heap.size+1) (RC (gC r))):=zec (r':=gC r) X2
 have cg:Hid (Below w.heap.size w (((w.alloc (.cells (RC r) 182)).alloc (.cells (RC rn0) 182)).setRow (w.heap.size+1) (RC (gC r)))):=zh HB.out (by omega);clear X1 X2 B1;go_enter Tryz.func181,Tryz.ntmps181;go_wp2_with fail;exact bodyPost_ret (I8 Tryz.results181 rfl HX.out) rfl ⟨rfl,cg.out⟩
theorem dI.setHi {B0 B:Nat} {w w':World} {ad:Addr} {cap:Nat} {i:List Rn} {x:Rn} (O:dI B0 B w w' (some ad) cap (i++[x])) (h:Int):dI B0 B w (w'.setCell ((ad.add (i.length * 2)).add 1) (.int .i64 h)) (some ad) cap (i++[⟨x.lo,h⟩])/\w'.frozen? ((ad.add (i.length * 2)).add 1)=false:=by
 have ic:(i++[(⟨x.lo,h⟩:Rn)]).length=(i++[x]).length:=by simp
 rcases O.own.2 with ⟨h0,_⟩ | ⟨g,c,cur,hv,dN,dy,hnc,eV,hcsz,htake⟩
 ·cases h0
 ·simp only [Value.slice.injEq,Option.some.injEq,true_and] at hv;obtain ⟨rfl,rfl⟩:=hv;rw [Addr.add_lit,Addr.add_lit,Nat.zero_add];have hB:=O.hB;refine ⟨⟨⟨by rw [qt],Or.inr ⟨g,cap,cur.setIfInBounds (i.length * 2+1) (.int .i64 h),by rw [ic],dN,heap_setCell_same w' g (i.length * 2+1) cur 182 _ dy,by rw [ic];exact hnc,eV,by simpa using hcsz,?_⟩⟩,O.below.setCell (by have:=O.hB0;show B0 <= g;omega) _,by simpa [World.setCell] using hB,O.hB0⟩,by simp [World.frozen?,dy]⟩;rw [Array.toList_setIfInBounds,List.take_set,ic,htake,xr,xr,ki,ki,List.set_append_right _ _ (by rw [qt];omega),qt];rw [show i.length * 2+1 - i.length * 2=1 by omega];rfl
def dC (w w':World) (e:Ending) (P:List Rn -> Prop):Prop:=∃ ao n c L,e = .returned (.slice ao n c)/\aX w' ao n c L/\Below w.heap.size w w'/\(∀ ad,ao=some ad -> w.heap.size <= ad.block)/\P L
theorem dC.gives {w w':World} {e:Ending} {P:List Rn -> Prop} (h:dC w w' e P):iV w w' e P:=by
 obtain ⟨ao,n,c,L,e1,S,b,_,p⟩:=h;exact ⟨ao,n,c,L,e1,S,b,p⟩
theorem zbb (ao:Option Addr) (n cap:Nat) (P:List Rn) (w:World) (hS:aX w ao n cap P) (hs:P.Pairwise (fun x y=>x.lo <= y.lo)) (hc:∀ x,x∈P -> 1 <= x.lo/\x.lo <= x.hi/\x.hi <= 1000000000) :
  Calls Tryz.prog 184 #[.slice ao n cap] w fun e w'=>dC w w' e (aT P):=by
 have HS:=hide hS;have hn:=hS.big;have HL:Hid (P.length=n):=hS.len;have HP:=hide hs;have HC:=hide hc;clear hS hs hc;go_enter Tryz.func184,Tryz.ntmps184;go_wp2_with fail;go_loopw [3,5,6,9] (fun v _ _ i wr=>∃ (k:Nat) (ap:Option Addr) (c:Nat) (acc:List Rn),k <= n/\acc.length <= k/\v = .slice ap acc.length c/\i = .int .i64 k/\Hid (ey (P.take k) acc/\dI w.heap.size w.heap.size w wr ap c acc)) (fun _ _ _ i _=>n - (intOf i).toNat)
 case atStart=>exact ⟨0,none,0,[],Nat.zero_le _,Nat.le_refl _,rfl,rfl,ey.start,dI.nil (Below.refl _ _) (Nat.le_refl _) (Nat.le_refl _)⟩
 case round =>
  obtain ⟨k,ap,c,acc,hk,nq,rfl,rfl,H⟩:=hrel
  rename World=>w4
  by_cases ak:k < n
  ·obtain ⟨ad,rfl,A0⟩:=(HS.out.below H.out.2.below).at k ak;have dK:=jg A0;obtain ⟨r,Hr⟩:∃ r,Hid (P.getD k rn0=r):=⟨_,rfl⟩;rw [Hr.out] at dK
   have mu:k < P.length:=by rw [HL.out];exact ak
   have tY:P.getD k rn0=P[k]'mu:=by simp [List.getD,mu]
   have LE:Hid (r∈P):=by show _∈_;rw [<- Hr.out,tY];exact List.getElem_mem _
   have Gi:=hide (HC.out r LE.out)
   have HT:Hid (P.take (k+1)=P.take k++[r]):=by show _=_;rw [List.take_succ_eq_append_getElem mu,<- tY,Hr.out]
   have MC:Hid (∀ p,p∈P.take k -> p.lo <= r.lo):=fun p hp=>by
    obtain ⟨j,hj,rfl⟩:=List.mem_iff_getElem.1 hp;rw [List.length_take] at hj;rw [<- Hr.out,tY,List.getElem_take];exact List.pairwise_iff_getElem.1 HP.out j k (by omega) mu (by omega)
   obtain ⟨w5,a8,X5,B5,Z5⟩:=made w4 r w4.heap.size rfl;have i7:=hide X5;have iq:=hide (H.out.2.later B5);clear A0 X5 B5 tY mu;obtain ⟨lo,hi⟩:=r;have r1:=Gi.out.1;have r2:=Gi.out.2.1;have r3:=Gi.out.2.2;simp only at r1 r2 r3;rcases List.eq_nil_or_concat acc with e | ⟨i,x,e⟩
   ·subst e
    have HN:Hid (ey (P.take (k+1)) ([]++[⟨lo,hi⟩])):=by rw [HT.out];exact H.out.1.first r1 r2 r3
    have E6:IntKind.i64.wrap ((0:Int) - 1) = -1:=by rw [IntKind.wrap_i64];omega
    go_wp2_with fail;refine wp_region_quiet_below (by kernel_rfl) (by kernel_rfl) ?_
    repeat (with_reducible (refine wpQuiet_step ?_);intro K hK;go_simp;(try rw [if_neg (by unfold undef;simp)]);first | (with_reducible (refine hK _ ?_);clear hK K) | (apply Exists.intro;refine ⟨fun _=>?_,hK _ ?_⟩;(fail);clear hK K))
    with_reducible (refine wpQuiet_nil ?_)
    intro w6 hw';obtain ⟨⟨dq,osq⟩,hw''⟩:=hw'
    have b6:Below w5.heap.size w5 w6:=by rw [hw''];exact below_regrown w5 dq osq
    clear hw'' dq osq;have lN:=hide (iq.out.later b6)
    have l6:=jg (i7.out.below b6).at
    clear b6;go_wp2_with (at_builtin;refine lN.out.append ⟨lo,hi⟩ _ rfl (by simp) rfl (.tmp 41) (.tmp 43) rfl 0 rfl rfl rfl ?_;intro g7 c7 w7 O7);go_roundw
    case rel=>exact ⟨k+1,some ⟨g7,0,none⟩,c7,[]++[⟨lo,hi⟩],by omega,by simp,by simp,by go_num,HN.out,O7⟩
    case measure=>simp [intOf];omega
   ·rw [List.concat_eq_append] at e;subst e;obtain ⟨j,hj⟩:∃ j,i.length=j:=⟨_,rfl⟩;obtain ⟨m,lw⟩:∃ m,(i++[x]).length=m:=⟨_,rfl⟩
    have uH:j+1=m:=by rw [<- lw];simp [hj]
    have JD:=hide uH;rw [lw] at nq ⊢
    have E6:IntKind.i64.wrap ((m:Int) - 1)=(j:Int):=by rw [IntKind.wrap_i64];omega
    have E5:decide ((0:Int) <= (j:Int))=true:=decide_eq_true (by omega)
    have LX:j < m:=by omega
    clear uH;have HF:=hide (kS H.out.1.frm);obtain ⟨S5,F5⟩:=iq.out.src (by rw [lw];omega);rw [lw] at S5;obtain ⟨ap',rfl,A5⟩:=S5.at j LX;obtain ⟨g,rfl⟩:∃ g,ap'=⟨g,0,none⟩:=⟨ap'.block,iq.out.mr.1.ha⟩
    have J1:(i++[x]).getD j rn0=x:=by simp [List.getD,<- hj]
    rw [J1] at A5;have i8:=hide A5;clear S5 F5 A5 J1;obtain ⟨xl,xh⟩:=x;have f2:=HF.out.2.1;have f3:=HF.out.2.2;simp only at f2 f3
    have cR:IntKind.i64.wrap (xh+1)=xh+1:=by rw [IntKind.wrap_i64];have:=HF.out.1;simp only at this;omega
    have k0:∀ d os,(Sort.grow (redrawn w5 d) os).cell? ⟨w4.heap.size,0,none⟩=some (.int .i64 lo):=cell_regrown i7.out.at.c0
    have A5c:w5.cell? ⟨g,j * 2+1,none⟩=some (.int .i64 xh):=by have:=i8.out.c1;rw [Addr.add_lit,Addr.add_lit,Nat.zero_add] at this;exact this
    have k1:∀ d os,(Sort.grow (redrawn w5 d) os).cell? ⟨g,j * 2+1,none⟩=some (.int .i64 xh):=cell_regrown A5c;have Nj:=hide A5c;clear A5c;by_cases hg:lo <= xh+1
    ·have tg:decide (lo <= xh+1)=true:=decide_eq_true hg
     have HN:Hid (ey (P.take (k+1)) (i++[⟨xl,max xh hi⟩])):=by rw [HT.out];exact H.out.1.join MC.out hg r2 r3
     go_wp2_with fail;refine wp_region_quiet_below (by kernel_rfl) (by kernel_rfl) ?_
     repeat (with_reducible (refine wpQuiet_step ?_);intro K hK;go_simp;(try rw [if_neg (by unfold undef;simp)]);first | (with_reducible (refine hK _ ?_);clear hK K) | (apply Exists.intro;refine ⟨fun _=>?_,hK _ ?_⟩;(fail);clear hK K))
     with_reducible (refine wpQuiet_nil ?_)
     intro w6 hw';obtain ⟨⟨dq,osq⟩,hw''⟩:=hw'
     have b6:Below w5.heap.size w5 w6:=by rw [hw''];exact below_regrown w5 dq osq
     clear hw'' dq osq;have lN:=hide (iq.out.later b6);have td:=hide (i8.out.on b6);have AV:=hide (i7.out.below b6);clear b6 k0 k1
     have q1:w6.cell? ⟨g,j * 2+1,none⟩=some (.int .i64 xh):=by have:=td.out.c1;rw [Addr.add_lit,Addr.add_lit,Nat.zero_add] at this;exact this
     have q2:w6.cell? ⟨w4.heap.size,1,none⟩=some (.int .i64 hi):=AV.out.at.c1;obtain ⟨O7,fz⟩:=lN.out.setHi (max xh hi);rw [hj,Addr.add_lit,Addr.add_lit,Nat.zero_add] at O7 fz;have fI:=hide O7;clear O7;go_wp2_with fail;go_region;go_wp2_with fail;go_roundw
     case rel=>exact ⟨k+1,some ⟨g,0,none⟩,c,i++[⟨xl,max xh hi⟩],by omega,by have:=JD.out;simp [hj];omega,by have:=JD.out;simp [hj,this],by go_num,HN.out,fI.out.later (zg _)⟩
     case measure=>simp [intOf];omega
    ·have tg:decide (lo <= xh+1)=false:=decide_eq_false hg
     have HN:Hid (ey (P.take (k+1)) (i++[⟨xl,xh⟩]++[⟨lo,hi⟩])):=by rw [HT.out];exact H.out.1.new hg r2 r3
     go_wp2_with fail;refine wp_region_quiet_below (by kernel_rfl) (by kernel_rfl) ?_
     repeat (with_reducible (refine wpQuiet_step ?_);intro K hK;go_simp;(try rw [if_neg (by unfold undef;simp)]);first | (with_reducible (refine hK _ ?_);clear hK K) | (apply Exists.intro;refine ⟨fun _=>?_,hK _ ?_⟩;(fail);clear hK K))
     with_reducible (refine wpQuiet_nil ?_)
     intro w6 hw';obtain ⟨⟨dq,osq⟩,hw''⟩:=hw'
     have b6:Below w5.heap.size w5 w6:=by rw [hw''];exact below_regrown w5 dq osq
     clear hw'' dq osq;have lN:=hide (iq.out.later b6)
     have l6:=jg (i7.out.below b6).at
     clear b6 k0 k1;go_wp2_with (at_builtin;refine lN.out.append ⟨lo,hi⟩ _ rfl (by rw [lw];omega) rfl (.tmp 41) (.tmp 43) rfl m lw rfl rfl ?_;intro g7 c7 w7 O7);go_roundw
     case rel=>exact ⟨k+1,some ⟨g7,0,none⟩,c7,i++[⟨xl,xh⟩]++[⟨lo,hi⟩],by omega,by rw [List.length_append,lw];simp;omega,by rw [List.length_append,lw];simp,by go_num,HN.out,O7⟩
     case measure=>simp [intOf];omega
  ·obtain rfl:k=n:=by omega
   have HE:Hid (P.take k=P):=List.take_of_length_le (by rw [HL.out];exact Nat.le_refl _);obtain ⟨S4,F4⟩:=H.out.2.src (by omega);have HN:Hid (dC w w4 (.returned (.slice ap acc.length c)) (aT P)):=⟨ap,acc.length,c,acc,rfl,S4,H.out.2.below,F4,H.out.1.frm,fun n=>by rw [H.out.1.mm n,HE.out]⟩;clear S4 F4;go_wp2_with fail;go_ret;exact HN.out
end
section
open Go.RowKit
attribute [local go_sem ↓] kM ky
attribute [local go_sem] zS zC zN ql
theorem wg (ao:Option Addr) (n cap:Nat) (L:List Rn) (w:World) (hS:aX w ao n cap L) :
  Calls Tryz.prog 141 #[.slice ao n cap] w fun e w'=>dC w w' e (aT L):=by
 have HS:=hide hS;have hn:=hS.big;have HL:Hid (L.length=n):=hS.len;clear hS;go_enter Tryz.func141,Tryz.ntmps141;go_wp2_with fail;go_loopw [3,5,6,9] (fun v _ _ i wr=>∃ (k:Nat) (ap:Option Addr) (c:Nat) (acc:List Rn),k <= n/\acc.length <= k/\v = .slice ap acc.length c/\i = .int .i64 k/\Hid (acc=aC (L.take k)/\dI w.heap.size w.heap.size w wr ap c acc)) (fun _ _ _ i _=>n - (intOf i).toNat)
 case atStart=>exact ⟨0,none,0,[],Nat.zero_le _,Nat.le_refl _,rfl,rfl,rfl,dI.nil (Below.refl _ _) (Nat.le_refl _) (Nat.le_refl _)⟩
 case round =>
  obtain ⟨k,ap,c,acc,hk,nq,rfl,rfl,H⟩:=hrel
  rename World=>w4
  by_cases ak:k < n
  ·obtain ⟨ad,rfl,A0⟩:=(HS.out.below H.out.2.below).at k ak;have dK:=jg A0;obtain ⟨r,Hr⟩:∃ r,Hid (L.getD k rn0=r):=⟨_,rfl⟩;rw [Hr.out] at dK
   have mu:k < L.length:=by rw [HL.out];exact ak
   have HT:Hid (aC (L.take (k+1))=acc++aC [r]):=by
    show _=_
    rw [List.take_succ_eq_append_getElem mu,show L[k]=r by rw [<- Hr.out];simp [List.getD,mu],H.out.1];simp [aC]
   obtain ⟨w5,a8,X5,B5,Z5⟩:=made w4 r w4.heap.size rfl
   have lx:=jg X5.at
   have iq:=hide (H.out.2.later B5);clear A0 X5 B5 mu Z5;go_wp2_with fail;refine (zgW r _).mono ?_;rintro e w6 ⟨rfl,b6⟩;have lN:=hide (iq.out.later b6);clear b6 lx a8 dK;obtain ⟨q,Hq⟩:∃ q,Hid (gC r=q):=⟨_,rfl⟩;rw [Hq.out];obtain ⟨w7,a8,X7,B7,Z7⟩:=made w6 q w6.heap.size rfl;have fI:=hide (lN.out.later B7)
   have lq:=jg X7.at
   have c0:=X7.at.c0;have c1:w7.cell? ⟨w6.heap.size,1,none⟩=some (.int .i64 q.hi):=X7.at.c1;clear X7 B7 Z7;by_cases hc:q.lo <= q.hi
   ·have HN:Hid (aC (L.take (k+1))=acc++[q]):=by show _=_;rw [HT.out];simp [aC,Hq.out,hc]
    go_wp2_with (at_builtin;refine fI.out.append q _ rfl (by omega) rfl (.tmp 20) (.tmp 22) rfl acc.length rfl rfl rfl ?_;intro g8 c8 w8 O8);go_roundw
    case rel=>exact ⟨k+1,some ⟨g8,0,none⟩,c8,acc++[q],by omega,by simp;omega,by simp,by go_num,HN.out.symm,O8⟩
    case measure=>simp [intOf];omega
   ·have HN:Hid (aC (L.take (k+1))=acc):=by show _=_;rw [HT.out];simp [aC,Hq.out,hc]
    go_wp2_with fail;go_roundw
    case rel=>exact ⟨k+1,ap,c,acc,by omega,by omega,rfl,by go_num,HN.out.symm,fI.out⟩
    case measure=>simp [intOf];omega
  ·obtain rfl:k=n:=by omega
   have HE:Hid (acc=aC L):=by show _=_;rw [H.out.1,List.take_of_length_le (by rw [HL.out];exact Nat.le_refl _)]
   have aQ:=hide H.out.2.below
   cases ap with
   | none =>
    obtain ⟨S4,_⟩:=H.out.2.src (by omega);obtain ⟨e0,rfl⟩:=S4.nil rfl;rw [e0];have m7:acc=[]:=List.eq_nil_of_length_eq_zero e0
    have HN:Hid (∀ m,mem [] m↔mem L m):=fun m=>by rw [<- yt L m,<- HE.out,m7]
    clear S4 e0 m7;go_wp2_with fail;refine (rj none 0 _).mono ?_;rintro e w5 ⟨rfl,rfl⟩;go_wp2_with fail;refine (zbb none 0 0 [] _ (aX.empty _) List.Pairwise.nil (fun x hx=>by cases hx)).mono ?_;rintro e w6 ⟨a6,n6,c6,R6,rfl,S6,b6,f6,p6⟩;have HF:Hid (dC w w6 (.returned (.slice a6 n6 c6)) (aT L)):=⟨a6,n6,c6,R6,rfl,S6,aQ.out.trans (b6.mono aQ.out.size),(fun ad h=>Nat.le_trans aQ.out.size (f6 ad h)),p6.1,fun m=>(p6.2 m).trans (HN.out m)⟩;clear S6 b6 f6 p6;go_wp2_with fail;go_ret;exact HF.out
   | some ap =>
    obtain ⟨M4,sG,uS,pV⟩:=H.out.2.mr;have lh:=hide M4;have AX:=hide sG;have mW:=hide uS;have sf:=hide pV;clear M4 sG uS pV;obtain ⟨m,hm⟩:∃ m,acc.length=m:=⟨_,rfl⟩;have HM:=hide hm;rw [hm] at nq ⊢;clear hm;go_wp2_with fail;refine (jI ap c m acc.toArray _ lh.out (by rw [List.size_toArray];exact HM.out) (by omega)).mono ?_;rintro e w5 ⟨rfl,d5,hp,hs,hz,M5,b5⟩;have HP:=hide hp;have nz:=hide hs;have u5:=hide (M5.rsrc m c hz (by rw [<- HM.out];exact mW.out) sf.out (by omega));have dO:Hid (Below w.heap.size w w5):=aQ.out.trans (b5.mono AX.out);clear hp hs hz M5 b5;go_wp2_with fail;refine (zbb (some ap) m c d5.toList _ u5.out nz.out (fun x hx=>ws L x (by rw [<- HE.out];have:=HP.out.mem_iff.1 hx;simpa using this))).mono ?_;rintro e w6 ⟨a6,n6,c6,R6,rfl,S6,b6,f6,p6⟩
    have HF:Hid (dC w w6 (.returned (.slice a6 n6 c6)) (aT L)):=⟨a6,n6,c6,R6,rfl,S6,dO.out.trans (b6.mono dO.out.size),(fun ad h=>Nat.le_trans dO.out.size (f6 ad h)),p6.1,fun m=>by
     rw [p6.2 m,<- yt L m,<- HE.out]
     exact zeH (fun x=>by have:=HP.out.mem_iff (a:=x);simpa using this) m⟩
    clear S6 b6 f6 p6;go_wp2_with fail;go_ret;exact HF.out
theorem wh (ao:Option Addr) (n cap:Nat) (L:List Rn) (w:World) (hS:aX w ao n cap L) :
  Calls Tryz.prog 141 #[.slice ao n cap] w fun e w'=>iV w w' e (aT L):=(wg ao n cap L w hS).mono fun _ _ h=>h.gives
end
section
open Go.RowKit
attribute [local go_sem ↓] kM ky
attribute [local go_sem] zS zC zN ql
theorem aX.tail' {w:World} {b o m c:Nat} {r:Rn} {L:List Rn} (h:aX w (some ⟨b,o,none⟩) m c (r :: L)):aX w (if c=1 then some ⟨b,o,none⟩ else some ⟨b,o+2,none⟩) (m - 1) (c - 1) L:=by
 by_cases e:c=1
 ·rw [if_pos e];have h1:=h.len;have h2:=h.cap;simp at h1;exact ⟨by omega,fun e=>(by cases e),fun ad ha t ht=>by omega,by omega,by omega,by omega⟩
 ·rw [if_neg e];exact h.tail
theorem zdw (r:Rn) (w:World) (h1:1 <= r.lo) (h2:r.hi <= 1000000000) (h3:r.lo <= r.hi):Calls Tryz.prog 142 #[RV r] w fun e w'=>e = .returned (.int .i64 (r.hi - r.lo+1))/\Below w.heap.size w w':=by
 have HB:=hide (ze w (.cells (RC r) 182));have X1:=zT w 182 r;have c0:=X1.at.c0;have c1:(w.alloc (.cells (RC r) 182)).cell? ⟨w.heap.size,1,none⟩=some (.int .i64 r.hi):=X1.at.c1
 have e1:IntKind.i64.wrap (r.hi - r.lo)=r.hi - r.lo:=by rw [IntKind.wrap_i64];omega
 have e2:IntKind.i64.wrap (r.hi - r.lo+1)=r.hi - r.lo+1:=by rw [IntKind.wrap_i64];omega
 clear X1;go_enter Tryz.func142,Tryz.ntmps142;go_wp2_with fail;go_ret;exact ⟨by simp,HB.out⟩
theorem ze0:∀ {a:List Rn} {l:Int} (k:Nat),1 <= l -> form l a -> k < a.length -> 1 <= (a.getD k rn0).lo/\(a.getD k rn0).lo <= (a.getD k rn0).hi/\(a.getD k rn0).hi <= 1000000000
 | r :: a,l,0,hl,h,_=>by have:=h.1;have:=h.2.1;have:=h.2.2.1;simp [List.getD];omega
 | r :: a,l,k+1,hl,h,hk=>by
  have:=ze0 k (l:=r.hi+2) (by have:=h.1;have:=h.2.1;omega) h.2.2.2 (by simpa using hk);simpa [List.getD] using this
def rD (A:List Rn) (k:Int):Prop:=∃ R,aT A R/\k=sz R
theorem zfT (ao:Option Addr) (n cap:Nat) (A:List Rn) (w:World) (hS:aX w ao n cap A) :
  Calls Tryz.prog 91 #[.slice ao n cap] w fun e w'=>∃ k,e = .returned (.int .i64 k)/\rD A k/\Below w.heap.size w w':=by
 have HS:=hide hS;clear hS;go_enter Tryz.func91,Tryz.ntmps91;go_wp2_with fail;refine (wh ao n cap A _ HS.out).mono ?_;rintro e w1 ⟨a1,n1,c1,X,rfl,S1,b1,p1⟩;have dm:=hide S1;have fA:=hide p1;have aN:=hide b1;have HL:Hid (X.length=n1):=S1.len;have hn:=S1.big;have hz:=zbz p1.1;have HZ:=hide hz.2.1
 have dg:sz X <= 1000000000:=by
  rcases hz.2.1 with e | e
  ·rw [e];simp [sz]
  ·omega
 clear S1 b1 p1 hz;go_wp2_with fail;go_loopw [3,5,9] (fun v _ i wr=>∃ (k:Nat),k <= n1/\v = .int .i64 (sz (X.take k))/\i = .int .i64 k/\Hid (Below w1.heap.size w1 wr)) (fun _ _ i _=>n1 - (intOf i).toNat)
 case atStart=>exact ⟨0,Nat.zero_le _,rfl,rfl,Below.refl _ _⟩
 case round =>
  obtain ⟨k,hk,rfl,rfl,H⟩:=hrel
  rename World=>w4
  have mo:=bs X 1 k fA.out.1;by_cases ak:k < n1
  ·obtain ⟨ad,rfl,A0⟩:=(dm.out.below H.out).at k ak;have dK:=jg A0;have C6:=ze0 k (Int.le_refl _) fA.out.1 (by rw [HL.out];exact ak);obtain ⟨r,Hr⟩:∃ r,Hid (X.getD k rn0=r):=⟨_,rfl⟩;rw [Hr.out] at dK C6
   have mu:k < X.length:=by rw [HL.out];exact ak
   have mv:=bs X 1 (k+1) fA.out.1
   have HT:Hid (sz (X.take (k+1))=sz (X.take k)+(r.hi - r.lo+1)):=by
    show _=_
    rw [List.take_succ_eq_append_getElem mu,zaM,show X[k]=r by rw [<- Hr.out];simp [List.getD,mu]];simp [sz]
   have hT:=HT.out;obtain ⟨s,hs⟩:∃ s,sz (X.take k)=s:=⟨_,rfl⟩;rw [hs] at mo hT ⊢;have L6:=hide hs
   have cR:IntKind.i64.wrap (s+(r.hi - r.lo+1))=s+(r.hi - r.lo+1):=by rw [IntKind.wrap_i64];omega
   obtain ⟨w5,a8,X5,B5,Z5⟩:=made w4 r w4.heap.size rfl
   have lx:=jg X5.at
   have dO:=wTr H B5;have eW:=hide (zdw r w5 C6.1 C6.2.2 C6.2.1);clear A0 X5 B5 Z5 mu hT hs mv C6;go_wp2_with fail;refine eW.out.mono ?_;rintro e w6 ⟨rfl,b6⟩;have fQ:=wTr dO b6;clear b6;go_wp2_with fail;go_roundw
   case rel=>exact ⟨k+1,by omega,by rw [HT.out,L6.out],by go_num,fQ⟩
   case measure=>simp [intOf];omega
  ·obtain rfl:k=n1:=by omega
   have HF:Hid (rD A (sz (X.take k))):=⟨X,fA.out,by rw [List.take_of_length_le (by rw [HL.out];exact Nat.le_refl _)]⟩;have p4:=wTr aN H.out;go_wp2_with fail;go_ret;exact ⟨_,rfl,HF.out,p4.out⟩
end
section

def Eu:List Rn -> Int -> Int
 | [],_=>0
 | r :: a,k=>if k <= r.hi - r.lo+1 then r.lo+k - 1 else Eu a (k - (r.hi - r.lo+1))
def pk (a:List Rn) (k:Int):Int:=if k < 1 then 0 else Eu a k
def uI:List Rn -> Int -> List Rn
 | [],_=>[]
 | r :: a,n=>if n < r.lo then [] else if n <= r.hi then [⟨r.lo,n⟩] else r :: uI a n
def rk (a:List Rn) (n:Int):Int:=sz (uI a n)
def fst:List Rn -> Int -> Int
 | [],_=>0
 | r :: a,f=>if f <= r.hi then max r.lo f else fst a f
theorem zd4 (r:Rn) (a:List Rn):sz (r :: a)=(r.hi - r.lo+1)+sz a:=rfl
end
section

theorem zho {a:List Rn} (h:form 1 a):0 <= sz a/\sz a <= 1000000000:=by
 have hz:=zbz h;refine ⟨hz.1,?_⟩;rcases hz.2.1 with e | e
 ·rw [e];simp [sz]
 ·omega
end
end Go.Proofs.YtjffpimfngdggaaGreat
