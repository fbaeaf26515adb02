/- Shf RMr RNm RNo RSz RPk RCo RLd PCl QFm -/
import Derived.Shelf.SlSortCmp.WholeK
import Derived.Test.YtjffpimfngdggaaGreatProg
import Derived.Shelf.SlSortCmp.NoneTotal
import Derived.Shelf.SlicesQ.Reverse
import Derived.Lib.OwnBridge
import Derived.Test.YtjffpimfngdggaaGreatFf03
set_option maxRecDepth 100000
set_option maxHeartbeats 4000000
namespace Go.Proofs
open Go.Shelf
def Tryz.sortR_ren:Go.Shelf.Ren:=⟨fun | 6=>182 | 15=>160 | 14=>217 | 28=>201 | 29=>202 | 20=>237 | 21=>238 | 22=>239 | 23=>240 | 24=>241 | 25=>242 | 26=>243 | 27=>244 | 46=>250 | 47=>228 | 48=>229 | 49=>251 | 50=>252 | 57=>262 | n=>n,fun | 22=>134 | 24=>182 | 25=>215 | 3=>3 | 39=>201 | 0=>0 | 53=>230 | 55=>232 | 4=>4 | 46=>223 | 45=>222 | 50=>174 | 5=>5 | 9=>9 | 66=>247 | 70=>251 | 76=>263 | 77=>132 | n=>n,fun | n=>n⟩
theorem Tryz.sortR:Go.Proofs.SlLaysF0.n6 Tryz.prog Tryz.sortR_ren:={
 mixed:=by kernel_rfl
 f6:=⟨Tryz.f182.name,by decide,Tryz.func182.trans (congrArg some (by kernel_rfl))⟩
 f14:=⟨Tryz.f217.name,by decide,Tryz.func217.trans (congrArg some (by kernel_rfl))⟩
 f15:=Tryz.func160.trans (congrArg some (by kernel_rfl))
 f20:=⟨Tryz.f237.name,by decide,Tryz.func237.trans (congrArg some (by kernel_rfl))⟩
 f21:=⟨Tryz.f238.name,by decide,Tryz.func238.trans (congrArg some (by kernel_rfl))⟩
 f22:=⟨Tryz.f239.name,by decide,Tryz.func239.trans (congrArg some (by kernel_rfl))⟩
 f23:=⟨Tryz.f240.name,by decide,Tryz.func240.trans (congrArg some (by kernel_rfl))⟩
 f24:=⟨Tryz.f241.name,by decide,Tryz.func241.trans (congrArg some (by kernel_rfl))⟩
 f25:=⟨Tryz.f242.name,by decide,Tryz.func242.trans (congrArg some (by kernel_rfl))⟩
 f26:=⟨Tryz.f243.name,by decide,Tryz.func243.trans (congrArg some (by kernel_rfl))⟩
 f27:=⟨Tryz.f244.name,by decide,Tryz.func244.trans (congrArg some (by kernel_rfl))⟩
 f28:=Tryz.func201.trans (congrArg some (by kernel_rfl))
 f29:=Tryz.func202.trans (congrArg some (by kernel_rfl))
 f46:=⟨Tryz.f250.name,by decide,Tryz.func250.trans (congrArg some (by kernel_rfl))⟩
 f47:=Tryz.func228.trans (congrArg some (by kernel_rfl))
 f48:=Tryz.func229.trans (congrArg some (by kernel_rfl))
 f49:=⟨Tryz.f251.name,by decide,Tryz.func251.trans (congrArg some (by kernel_rfl))⟩
 f50:=⟨Tryz.f252.name,by decide,Tryz.func252.trans (congrArg some (by kernel_rfl))⟩
 f57:=⟨Tryz.f262.name,by decide,Tryz.func262.trans (congrArg some (by kernel_rfl))⟩
 t0:=Tryz.underlying0
 a0:=Tryz.isAgg0
 z0:=Tryz.sizeOf0
 v0:=Tryz.zeroValue0
 t3:=Tryz.underlying3
 a3:=Tryz.isAgg3
 z3:=Tryz.sizeOf3
 v3:=Tryz.zeroValue3
 t4:=Tryz.underlying4
 a4:=Tryz.isAgg4
 z4:=Tryz.sizeOf4
 v4:=Tryz.zeroValue4
 t5:=Tryz.underlying5
 a5:=Tryz.isAgg5
 z5:=Tryz.sizeOf5
 v5:=Tryz.zeroValue5
 t9:=Tryz.underlying9
 a9:=Tryz.isAgg9
 z9:=Tryz.sizeOf9
 v9:=Tryz.zeroValue9
 t22:=Tryz.underlying134
 a22:=Tryz.isAgg134
 z22:=Tryz.sizeOf134
 v22:=Tryz.zeroValue134
 t25:=Tryz.underlying215
 a25:=Tryz.isAgg215
 z25:=Tryz.sizeOf215
 v25:=Tryz.zeroValue215
 t39:=Tryz.underlying201
 a39:=Tryz.isAgg201
 z39:=Tryz.sizeOf201
 v39:=Tryz.zeroValue201
 t45:=Tryz.underlying222
 a45:=Tryz.isAgg222
 z45:=Tryz.sizeOf222
 v45:=Tryz.zeroValue222
 t46:=Tryz.underlying223
 a46:=Tryz.isAgg223
 z46:=Tryz.sizeOf223
 v46:=Tryz.zeroValue223
 t50:=Tryz.underlying174
 a50:=Tryz.isAgg174
 z50:=Tryz.sizeOf174
 v50:=Tryz.zeroValue174
 t53:=Tryz.underlying230
 a53:=Tryz.isAgg230
 z53:=Tryz.sizeOf230
 v53:=Tryz.zeroValue230
 t55:=Tryz.underlying232
 a55:=Tryz.isAgg232
 z55:=Tryz.sizeOf232
 v55:=Tryz.zeroValue232
 t66:=Tryz.underlying247
 a66:=Tryz.isAgg247
 z66:=Tryz.sizeOf247
 v66:=Tryz.zeroValue247
 t70:=Tryz.underlying251
 a70:=Tryz.isAgg251
 z70:=Tryz.sizeOf251
 v70:=Tryz.zeroValue251
 t76:=Tryz.underlying263
 a76:=Tryz.isAgg263
 z76:=Tryz.sizeOf263
 v76:=Tryz.zeroValue263
 t77:=Tryz.underlying132
 a77:=Tryz.isAgg132
 z77:=Tryz.sizeOf132
 v77:=Tryz.zeroValue132 }
end Go.Proofs
namespace Go.Proofs.YtjffpimfngdggaaGreat
section
open Go.RowKit Go.Sort

def cQ (r:Rn):List Value:=(RC r).toList
theorem ww (r:Rn):(cQ r).length=2:=rfl
structure MR (W:World) (ad:Addr) (d:Array Rn):Prop where
 hk:HoldsK cQ 2 W ad.block 0 d
 lt:ad.block < W.heap.size
 ha:ad=⟨ad.block,0,none⟩
theorem MR.at {W:World} {ad:Addr} {d:Array Rn} (M:MR W ad d) (i:Nat) (hi:i < d.size):gk W (ad.add (i * 2)) d[i]! := by
 have h:∀ c,c < 2 -> W.cell? ⟨ad.block,i * 2+c,none⟩=some (cQ d[i]!)[c]! := fun c hc=>by
  have:=(M.hk.cell hi hc).1;rwa [Nat.zero_add] at this
 rw [M.ha,Addr.add_lit,Nat.zero_add];exact ⟨h 0 (by omega),by rw [Addr.add_lit];exact h 1 (by omega)⟩
theorem MR.rsrc {W:World} {ad:Addr} {d:Array Rn} (M:MR W ad d) (n c:Nat) (hn:d.size=n) (hc:n <= c) (fS:c <= maxLen) (hm:n <= 8796093022207):aV W (some ad) n c d.toList:=by
 refine ⟨by simpa using hn,fun h=>(by cases h),fun ad' h t ht=>?_,hc,fS,hm⟩;obtain rfl:=Option.some.inj h
 have e:d.toList.getD t rn0=d[t]! := by
  rw [List.getD,Array.getElem?_toList,Array.getElem?_eq_getElem (by omega),getElem!_pos d t (by omega)];rfl
 rw [e];exact M.at t (by omega)
theorem dS.mr {B0 B:Nat} {w w':World} {ad:Addr} {cap:Nat} {acc:List Rn} (O:dS B0 B w w' (some ad) cap acc):MR w' ad acc.toArray/\B <= ad.block/\acc.length <= cap/\cap <= maxLen:=by
 rcases O.own.2 with ⟨h0,_⟩ | ⟨g,c,cur,hv,dU,dx,hnc,fS,hcsz,htake⟩
 ·cases h0
 ·simp only [Value.slice.injEq,Option.some.injEq,true_and] at hv;obtain ⟨rfl,rfl⟩:=hv;refine ⟨⟨fun j hj=>?_,(Array.getElem?_eq_some_iff.1 dx).1,rfl⟩,dU,hnc,fS⟩;rw [Sort.size_flatK] at hj
  have Le:j < acc.length * 2:=by simpa using hj
  refine ⟨?_,by simp [World.frozen?,dx]⟩;rw [Nat.zero_add,O.own.cellAt j (by omega),Sort.get_flatK _ _ _ _ hj];have e4:=yq acc (j / 2) (j % 2) (by omega) (by omega);rw [show j / 2 * 2+j % 2=j by omega] at e4;rw [e4]
  have e5:acc.toArray[j / 2]! = acc.getD (j / 2) rn0:=by
   rw [getElem!_pos acc.toArray (j / 2) (by simp;omega)];simp [List.getD,show j / 2 < acc.length by omega]
  rw [e5]
  have:j % 2=0∨j % 2=1:=by omega
  rcases this with h | h <;> rw [h] <;> rfl
def az (x y:Int):Int:=if x < y then -1 else if y < x then 1 else 0
theorem jb (x:Int) (w:World):Calls Tryz.prog 176 #[.int .i64 x] w fun e w'=>e = .returned (.bool false)/\w'=w:=by
 have h:(x != x)=false:=by simp
 go_enter Tryz.func176,Tryz.ntmps176;go_wp2_with fail;go_ret;exact ⟨by simp,rfl⟩
theorem qC (x y:Int) (w:World):Calls Tryz.prog 138 #[.int .i64 x,.int .i64 y] w fun e w'=>e = .returned (.int .i64 (az x y))/\w'=w:=by
 by_cases h1:x < y
 ·have HC:Hid (az x y = -1):=by show _=_;unfold az;rw [if_pos h1]
  go_enter Tryz.func138,Tryz.ntmps138;go_wp2_with (go_at_call 176;refine (jb _ _).mono ?_;rintro e w' ⟨rfl,rfl⟩);go_ret;exact ⟨zK HC.symm,rfl⟩
 ·by_cases h2:y < x
  ·have HC:Hid (az x y=1):=by show _=_;unfold az;rw [if_neg h1,if_pos h2]
   go_enter Tryz.func138,Tryz.ntmps138;go_wp2_with (go_at_call 176;refine (jb _ _).mono ?_;rintro e w' ⟨rfl,rfl⟩);go_ret;exact ⟨zK HC.symm,rfl⟩
  ·have HC:Hid (az x y=0):=by show _=_;unfold az;rw [if_neg h1,if_neg h2]
   go_enter Tryz.func138,Tryz.ntmps138;go_wp2_with (go_at_call 176;refine (jb _ _).mono ?_;rintro e w' ⟨rfl,rfl⟩);go_ret;exact ⟨zK HC.symm,rfl⟩
def oK (x y:Rn):Int:=az x.lo y.lo
theorem zaX (x y:Rn):ltOf oK x y=decide (x.lo < y.lo):=by
 unfold ltOf oK az;by_cases h1:x.lo < y.lo
 ·simp [h1]
 ·by_cases h2:y.lo < x.lo <;> simp [h1,h2]
theorem zhF:SWO (ltOf oK) where
 irrefl x:=by rw [zaX];simp
 trans x y z h1 h2:=by rw [zaX] at *;simp at *;omega
 ntrans x y z h1 h2:=by rw [zaX] at *;simp at *;omega
def mv (w w':World):Prop:=∃ q os,w'=grow (w.drewN q) os
theorem zg6 (w:World) (a b:Obj):mv w ((w.alloc a).alloc b):=by
 refine ⟨0,#[a]++#[b],?_⟩;rw [alloc_eq_grow (w.alloc a) b,alloc_eq_grow w a,grow_grow];rfl
theorem zhG (x y:Rn) (w:World):Calls Tryz.prog 183 #[.agg #[.int .i64 x.lo,.int .i64 x.hi],.agg #[.int .i64 y.lo,.int .i64 y.hi]] w fun e w'=>e = .returned (.int .i64 (oK x y))/\mv w w':=by
 have HG:=hide (zg6 w (.cells #[.int .i64 x.lo,.int .i64 x.hi] 182) (.cells #[.int .i64 y.lo,.int .i64 y.hi] 182));obtain ⟨p,Hp⟩:∃ p,Hid (oK x y=p):=⟨_,rfl⟩
 have HC:Hid (∀ W,Calls Tryz.prog 138 #[.int .i64 x.lo,.int .i64 y.lo] W fun e w'=>e = .returned (.int .i64 p)/\w'=W):=fun W=>by rw [<- Hp.out];exact qC _ _ W
 rw [Hp.out];go_enter Tryz.func183,Tryz.ntmps183;go_wp2_with (go_at_call 138;refine (HC.out _).mono ?_;rintro e w' ⟨rfl,rfl⟩);go_ret;exact ⟨rfl,HG.out⟩
theorem mp (blk size:Nat) (w:World):CmpLays Tryz.prog 183 #[] cQ 2 oK blk 0 size w:=
 fun _ _ _ _ x y=>zhG x y _
theorem jU (ad:Addr) (cap n:Nat) (d:Array Rn) (w:World) (M:MR w ad d) (hn:d.size=n) (hb:n <= 8796093022207) :
  Calls Tryz.prog 182 #[.slice (some ad) n cap,.func (.func 183) #[] #[]] w fun e w'=>e = .returned (.tuple #[])/\∃ d',d'.toList.Perm d.toList/\d'.toList.Pairwise (fun x y=>x.lo <= y.lo)/\d'.size=n/\MR w' ad d'/\Below ad.block w w':=by
 subst hn;have eg:∀ args w,(callFunc 183 args).run Tryz.prog w = .ok (.enter 183 args) w:=enters_of Tryz.func183 (by kernel_rfl) rfl;have h:=AnyQ.slices_SortFunc Tryz.sortR 2 Tryz.isAgg182 Tryz.sizeOf182 cQ (fun _=>rfl) (fun x v hv=>j7 x v hv) oK zhF 183 #[] ad.block 0 cap d w eg (mp ad.block d.size w) M.hk M.lt (by omega);rw [<- M.ha] at h;refine Calls.mono h ?_;rintro e w' ⟨rfl,d',m,os,⟨hs,_,hp⟩,oa,rfl⟩;refine ⟨rfl,d',?_,?_,hs,⟨holdsK_sortWorldK_c cQ 2 w ad.block 0 d d' m os M.hk M.lt hs,?_,M.ha⟩,?_⟩
 ·have e1:d'.extract 0 d.size=d':=by rw [<- hs];simp
  have e2:d.extract 0 d.size=d:=by simp
  rwa [e1,e2] at hp
 ·rw [List.pairwise_iff_getElem];intro i j hi hj rD;have:=oa i j (Nat.zero_le _) rD (by rw [<- hs];simpa using hj);rw [zaX] at this;rw [getElem!_pos d' j (by simpa using hj),getElem!_pos d' i (by simpa using hi)] at this;simp only [Array.getElem_toList];simp at this;exact this
 ·have:=M.lt
  show ad.block < ((putRow id (Sort.ahead w m) ad.block 0 (flatK cQ 2 d')).heap++os).size
  rw [Array.size_append,size_putRow]
  show ad.block < w.heap.size+os.size
  omega
 ·have h1:Below ad.block w (putRow id (Sort.ahead w m) ad.block 0 (flatK cQ 2 d')):=Lib.below_putRow (Below.refl _ _) (Nat.le_refl _);refine h1.trans ?_
  have dE:ad.block <= (putRow id (Sort.ahead w m) ad.block 0 (flatK cQ 2 d')).heap.size:=by rw [size_putRow];exact Nat.le_of_lt M.lt
  show Below ad.block _ (grow (putRow id (Sort.ahead w m) ad.block 0 (flatK cQ 2 d')) os)
  generalize putRow id (Sort.ahead w m) ad.block 0 (flatK cQ 2 d')=V at dE;exact ⟨rfl,rfl,rfl,by show _ <= (V.heap++os).size;rw [Array.size_append];omega,fun k hk=>by show (V.heap++os)[k]? = _;rw [Array.getElem?_append_left (by omega)]⟩
theorem su (ao:Option Addr) (cap:Nat) (w:World):Calls Tryz.prog 182 #[.slice ao 0 cap,.func (.func 183) #[] #[]] w fun e w'=>e = .returned (.tuple #[])/\w'=w:=AnyF.slices_SortFunc_none Tryz.sortR ao cap _ w
end
section
open Go.RowKit
attribute [local go_sem ↓] kV kG
attribute [local go_sem] zR zz zM qp
theorem JK {fn:Func} {p:Tmp} {w:World} {g:Nat} {T:TypeId} {r:Rn} (h:fn.results=#[.cell p 182]) {tmps:Array Value} (hp:tmps.getD p undef = .pointer (some ⟨g,0,none⟩)) (A:Box w g T r) :
  (results fn tmps).run Tryz.prog w = .ok (RV r) w:=by
 have hl:=zeK A.at
 simp only [results,h];rw [Array.getD_eq_getD_getElem?] at hp;simp [hp,asAddr,hl]
theorem zhw (r:Rn) (w:World):Calls Tryz.prog 181 #[RV r] w fun e w'=>e = .returned (RV (gU r))/\Below w.heap.size w w':=by
 have B1:=ze w (.cells (RC r) 182);have HB:Hid (Below w.heap.size w ((w.alloc (.cells (RC r) 182)).alloc (.cells (RC rn0) 182))):=B1.trans ((ze _ _).mono B1.size);have X1:=(zQ w 182 r).below (ze _ (.cells (RC rn0) 182));have X2:=zQ (w.alloc (.cells (RC r) 182)) 182 rn0;rw [World.size_alloc] at X2;have c0:=X1.at.c0;have c1:((w.alloc (.cells (RC r) 182)).alloc (.cells (RC rn0) 182)).cell? ⟨w.heap.size,1,none⟩=some (.int .i64 r.hi):=X1.at.c1;have HX:=hide (X2.setRow (r':=gU r));have cd:(stR (.pointer (some ⟨w.heap.size+1,0,none⟩)) (.agg (((RC rn0).setIfInBounds 0 (.int .i64 (max r.lo 1))).setIfInBounds 1 (.int .i64 (min r.hi 1000000000))))).run Tryz.prog ((w.alloc (.cells (RC r) 182)).alloc (.cells (RC rn0) 182)) = .ok () (((w.alloc (.cells (RC r) 182)).alloc (.cells (RC rn0) 182)).setRow (w.heap.size+1) (RC (gU r))):=zeJ (r':=gU r) X2
 have cu:Hid (Below w.heap.size w (((w.alloc (.cells (RC r) 182)).alloc (.cells (RC rn0) 182)).setRow (w.heap.size+1) (RC (gU r)))):=zh HB.out (by omega);clear X1 X2 B1;go_enter Tryz.func181,Tryz.ntmps181;go_wp2_with fail;exact bodyPost_ret (JK Tryz.results181 rfl HX) rfl ⟨rfl,cu.out⟩
theorem dS.setHi {B0 B:Nat} {w w':World} {ad:Addr} {cap:Nat} {i:List Rn} {x:Rn} (O:dS B0 B w w' (some ad) cap (i++[x])) (h:Int):dS B0 B w (w'.setCell ((ad.add (i.length * 2)).add 1) (.int .i64 h)) (some ad) cap (i++[⟨x.lo,h⟩])/\w'.frozen? ((ad.add (i.length * 2)).add 1)=false:=by
 have iv:(i++[(⟨x.lo,h⟩:Rn)]).length=(i++[x]).length:=by simp
 rcases O.own.2 with ⟨h0,_⟩ | ⟨g,c,cur,hv,dU,dx,hnc,fS,hcsz,htake⟩
 ·cases h0
 ·simp only [Value.slice.injEq,Option.some.injEq,true_and] at hv;obtain ⟨rfl,rfl⟩:=hv;rw [Addr.add_lit,Addr.add_lit,Nat.zero_add];have hB:=O.hB;refine ⟨⟨⟨by rw [qv],Or.inr ⟨g,cap,cur.setIfInBounds (i.length * 2+1) (.int .i64 h),by rw [iv],dU,heap_setCell_same w' g (i.length * 2+1) cur 182 _ dx,by rw [iv];exact hnc,fS,by simpa using hcsz,?_⟩⟩,O.below.setCell (by have:=O.hB0;show B0 <= g;omega) _,by simpa [World.setCell] using hB,O.hB0⟩,by simp [World.frozen?,dx]⟩;rw [Array.toList_setIfInBounds,List.take_set,iv,htake,xx,xx,kv,kv,List.set_append_right _ _ (by rw [qv];omega),qv];rw [show i.length * 2+1 - i.length * 2=1 by omega];rfl
def dL (w w':World) (e:Ending) (P:List Rn -> Prop):Prop:=∃ ao n c L,e = .returned (.slice ao n c)/\aV w' ao n c L/\Below w.heap.size w w'/\(∀ ad,ao=some ad -> w.heap.size <= ad.block)/\P L
theorem dL.gives {w w':World} {e:Ending} {P:List Rn -> Prop} (h:dL w w' e P):lE w w' e P:=by
 obtain ⟨ao,n,c,L,e1,S,b,_,p⟩:=h;exact ⟨ao,n,c,L,e1,S,b,p⟩
theorem zbz (ao:Option Addr) (n cap:Nat) (P:List Rn) (w:World) (hS:aV w ao n cap P) (hs:P.Pairwise (fun x y=>x.lo <= y.lo)) (hc:∀ x,x∈P -> 1 <= x.lo/\x.lo <= x.hi/\x.hi <= 1000000000) :
  Calls Tryz.prog 184 #[.slice ao n cap] w fun e w'=>dL w w' e (aN P):=by
 have HS:=hide hS;have hn:=hS.big;have HL:Hid (P.length=n):=hS.len;have HP:=hide hs;have HC:=hide hc;clear hS hs hc;go_enter Tryz.func184,Tryz.ntmps184;go_wp2_with fail;go_loopw [3,5,6,9] (fun v _ _ i wr=>∃ (k:Nat) (ap:Option Addr) (c:Nat) (acc:List Rn),k <= n/\acc.length <= k/\v = .slice ap acc.length c/\i = .int .i64 k/\Hid (eU (P.take k) acc/\dS w.heap.size w.heap.size w wr ap c acc)) (fun _ _ _ i _=>n - (intOf i).toNat)
 case atStart=>exact ⟨0,none,0,[],Nat.zero_le _,Nat.le_refl _,rfl,rfl,eU.start,dS.nil (Below.refl _ _) (Nat.le_refl _) (Nat.le_refl _)⟩
 case round =>
  obtain ⟨k,ap,c,acc,hk,nJ,rfl,rfl,H⟩:=hrel
  rename World=>w4
  by_cases ak:k < n
  ·obtain ⟨ad,rfl,A0⟩:=(HS.below H.2.below).at k ak;have dF:=jn A0;obtain ⟨r,Hr⟩:∃ r,Hid (P.getD k rn0=r):=⟨_,rfl⟩;rw [Hr.out] at dF
   have nd:k < P.length:=by rw [HL.out];exact ak
   have Ai:P.getD k rn0=P[k]'nd:=by simp [List.getD,nd]
   have L7:Hid (r∈P):=by show _∈_;rw [<- Hr.out,Ai];exact List.getElem_mem _
   have Jr:=hide (HC.out r L7)
   have HT:Hid (P.take (k+1)=P.take k++[r]):=by show _=_;rw [List.take_succ_eq_append_getElem nd,<- Ai,Hr.out]
   have Np:Hid (∀ p,p∈P.take k -> p.lo <= r.lo):=fun p hp=>by
    obtain ⟨j,hj,rfl⟩:=List.mem_iff_getElem.1 hp;rw [List.length_take] at hj;rw [<- Hr.out,Ai,List.getElem_take];exact List.pairwise_iff_getElem.1 HP.out j k (by omega) nd (by omega)
   obtain ⟨w5,cd,X5,B5,Z5⟩:=made w4 r w4.heap.size rfl;have gK:=hide X5;have gv:=hide (H.2.later B5);clear A0 X5 B5 Ai nd;obtain ⟨lo,hi⟩:=r;have r1:=Jr.1;have r2:=Jr.2.1;have r3:=Jr.2.2;simp only at r1 r2 r3;rcases List.eq_nil_or_concat acc with e | ⟨i,x,e⟩
   ·subst e
    have HN:Hid (eU (P.take (k+1)) ([]++[⟨lo,hi⟩])):=by rw [HT.out];exact H.1.first r1 r2 r3
    have E5:IntKind.i64.wrap ((0:Int) - 1) = -1:=by rw [IntKind.wrap_i64];omega
    go_wp2_with fail;refine wp_region_quiet_below (by kernel_rfl) (by kernel_rfl) ?_
    repeat (with_reducible (refine wpQuiet_step ?_);intro K hK;go_simp;(try rw [if_neg (by unfold undef;simp)]);first | (with_reducible (refine hK _ ?_);clear hK K) | (apply Exists.intro;refine ⟨fun _=>?_,hK _ ?_⟩;(fail);clear hK K))
    with_reducible (refine wpQuiet_nil ?_)
    intro w6 hw';obtain ⟨⟨dq,osq⟩,hw''⟩:=hw'
    have b6:Below w5.heap.size w5 w6:=by rw [hw''];exact below_regrown w5 dq osq
    clear hw'' dq osq;have iJ:=hide (gv.later b6)
    have l6:=jn (gK.below b6).at
    clear b6;go_wp2_with (at_builtin;refine iJ.append ⟨lo,hi⟩ _ rfl (by simp) rfl (.tmp 41) (.tmp 43) rfl 0 rfl rfl rfl ?_;intro g7 c7 w7 O7);go_roundw
    case rel=>exact ⟨k+1,some ⟨g7,0,none⟩,c7,[]++[⟨lo,hi⟩],by omega,by simp,by simp,by go_num,HN.out,O7⟩
    case measure=>simp [intOf];omega
   ·rw [List.concat_eq_append] at e;subst e;obtain ⟨j,hj⟩:∃ j,i.length=j:=⟨_,rfl⟩;obtain ⟨m,iK⟩:∃ m,(i++[x]).length=m:=⟨_,rfl⟩
    have o9:j+1=m:=by rw [<- iK];simp [hj]
    have Lj:=hide o9;rw [iK] at nJ ⊢
    have E5:IntKind.i64.wrap ((m:Int) - 1)=(j:Int):=by rw [IntKind.wrap_i64];omega
    have Fm:decide ((0:Int) <= (j:Int))=true:=decide_eq_true (by omega)
    have NU:j < m:=by omega
    clear o9;have HF:=hide (ve H.1.frm);obtain ⟨S5,F5⟩:=gv.src (by rw [iK];omega);rw [iK] at S5;obtain ⟨ap',rfl,A5⟩:=S5.at j NU;obtain ⟨g,rfl⟩:∃ g,ap'=⟨g,0,none⟩:=⟨ap'.block,gv.mr.1.ha⟩
    have Lc:(i++[x]).getD j rn0=x:=by simp [List.getD,<- hj]
    rw [Lc] at A5;have iI:=hide A5;clear S5 F5 A5 Lc;obtain ⟨xl,xh⟩:=x;have f2:=HF.2.1;have f3:=HF.2.2;simp only at f2 f3
    have cF:IntKind.i64.wrap (xh+1)=xh+1:=by rw [IntKind.wrap_i64];have:=HF.1;simp only at this;omega
    have k0:∀ d os,(Sort.grow (redrawn w5 d) os).cell? ⟨w4.heap.size,0,none⟩=some (.int .i64 lo):=cell_regrown gK.at.c0
    have A5c:w5.cell? ⟨g,j * 2+1,none⟩=some (.int .i64 xh):=by have:=iI.c1;rw [Addr.add_lit,Addr.add_lit,Nat.zero_add] at this;exact this
    have k1:∀ d os,(Sort.grow (redrawn w5 d) os).cell? ⟨g,j * 2+1,none⟩=some (.int .i64 xh):=cell_regrown A5c;have MP:=hide A5c;clear A5c;by_cases hg:lo <= xh+1
    ·have tS:decide (lo <= xh+1)=true:=decide_eq_true hg
     have HN:Hid (eU (P.take (k+1)) (i++[⟨xl,max xh hi⟩])):=by rw [HT.out];exact H.1.join Np.out hg r2 r3
     go_wp2_with fail;refine wp_region_quiet_below (by kernel_rfl) (by kernel_rfl) ?_
     repeat (with_reducible (refine wpQuiet_step ?_);intro K hK;go_simp;(try rw [if_neg (by unfold undef;simp)]);first | (with_reducible (refine hK _ ?_);clear hK K) | (apply Exists.intro;refine ⟨fun _=>?_,hK _ ?_⟩;(fail);clear hK K))
     with_reducible (refine wpQuiet_nil ?_)
     intro w6 hw';obtain ⟨⟨dq,osq⟩,hw''⟩:=hw'
     have b6:Below w5.heap.size w5 w6:=by rw [hw''];exact below_regrown w5 dq osq
     clear hw'' dq osq;have iJ:=hide (gv.later b6);have nP:=hide (iI.on b6);have tG:=hide (gK.below b6);clear b6 k0 k1
     have q1:w6.cell? ⟨g,j * 2+1,none⟩=some (.int .i64 xh):=by have:=nP.c1;rw [Addr.add_lit,Addr.add_lit,Nat.zero_add] at this;exact this
     have q2:w6.cell? ⟨w4.heap.size,1,none⟩=some (.int .i64 hi):=tG.at.c1;obtain ⟨O7,fz⟩:=iJ.setHi (max xh hi);rw [hj,Addr.add_lit,Addr.add_lit,Nat.zero_add] at O7 fz;have fj:=hide O7;clear O7;go_wp2_with fail;go_region;go_wp2_with fail;go_roundw
     case rel=>exact ⟨k+1,some ⟨g,0,none⟩,c,i++[⟨xl,max xh hi⟩],by omega,by have:=Lj.out;simp [hj];omega,by have:=Lj.out;simp [hj,this],by go_num,HN.out,fj.later (zf _)⟩
     case measure=>simp [intOf];omega
    ·have tS:decide (lo <= xh+1)=false:=decide_eq_false hg
     have HN:Hid (eU (P.take (k+1)) (i++[⟨xl,xh⟩]++[⟨lo,hi⟩])):=by rw [HT.out];exact H.1.new hg r2 r3
     go_wp2_with fail;refine wp_region_quiet_below (by kernel_rfl) (by kernel_rfl) ?_
     repeat (with_reducible (refine wpQuiet_step ?_);intro K hK;go_simp;(try rw [if_neg (by unfold undef;simp)]);first | (with_reducible (refine hK _ ?_);clear hK K) | (apply Exists.intro;refine ⟨fun _=>?_,hK _ ?_⟩;(fail);clear hK K))
     with_reducible (refine wpQuiet_nil ?_)
     intro w6 hw';obtain ⟨⟨dq,osq⟩,hw''⟩:=hw'
     have b6:Below w5.heap.size w5 w6:=by rw [hw''];exact below_regrown w5 dq osq
     clear hw'' dq osq;have iJ:=hide (gv.later b6)
     have l6:=jn (gK.below b6).at
     clear b6 k0 k1;go_wp2_with (at_builtin;refine iJ.append ⟨lo,hi⟩ _ rfl (by rw [iK];omega) rfl (.tmp 41) (.tmp 43) rfl m iK rfl rfl ?_;intro g7 c7 w7 O7);go_roundw
     case rel=>exact ⟨k+1,some ⟨g7,0,none⟩,c7,i++[⟨xl,xh⟩]++[⟨lo,hi⟩],by omega,by rw [List.length_append,iK];simp;omega,by rw [List.length_append,iK];simp,by go_num,HN.out,O7⟩
     case measure=>simp [intOf];omega
  ·obtain rfl:k=n:=by omega
   have HE:Hid (P.take k=P):=List.take_of_length_le (by rw [HL.out];exact Nat.le_refl _);obtain ⟨S4,F4⟩:=H.2.src (by omega);have HN:Hid (dL w w4 (.returned (.slice ap acc.length c)) (aN P)):=⟨ap,acc.length,c,acc,rfl,S4,H.2.below,F4,H.1.frm,fun n=>by rw [H.1.mm n,HE.out]⟩;clear S4 F4;go_wp2_with fail;go_ret;exact HN.out
end
section
open Go.RowKit
attribute [local go_sem ↓] kV kG
attribute [local go_sem] zR zz zM qp
theorem wu (ao:Option Addr) (n cap:Nat) (L:List Rn) (w:World) (hS:aV w ao n cap L) :
  Calls Tryz.prog 141 #[.slice ao n cap] w fun e w'=>dL w w' e (aN L):=by
 have HS:=hide hS;have hn:=hS.big;have HL:Hid (L.length=n):=hS.len;clear hS;go_enter Tryz.func141,Tryz.ntmps141;go_wp2_with fail;go_loopw [3,5,6,9] (fun v _ _ i wr=>∃ (k:Nat) (ap:Option Addr) (c:Nat) (acc:List Rn),k <= n/\acc.length <= k/\v = .slice ap acc.length c/\i = .int .i64 k/\Hid (acc=aE (L.take k)/\dS w.heap.size w.heap.size w wr ap c acc)) (fun _ _ _ i _=>n - (intOf i).toNat)
 case atStart=>exact ⟨0,none,0,[],Nat.zero_le _,Nat.le_refl _,rfl,rfl,rfl,dS.nil (Below.refl _ _) (Nat.le_refl _) (Nat.le_refl _)⟩
 case round =>
  obtain ⟨k,ap,c,acc,hk,nJ,rfl,rfl,H⟩:=hrel
  rename World=>w4
  by_cases ak:k < n
  ·obtain ⟨ad,rfl,A0⟩:=(HS.below H.2.below).at k ak;have dF:=jn A0;obtain ⟨r,Hr⟩:∃ r,Hid (L.getD k rn0=r):=⟨_,rfl⟩;rw [Hr.out] at dF
   have nd:k < L.length:=by rw [HL.out];exact ak
   have HT:Hid (aE (L.take (k+1))=acc++aE [r]):=by
    show _=_
    rw [List.take_succ_eq_append_getElem nd,show L[k]=r by rw [<- Hr.out];simp [List.getD,nd],H.1];simp [aE]
   obtain ⟨w5,cd,X5,B5,Z5⟩:=made w4 r w4.heap.size rfl
   have lx:=jn X5.at
   have gv:=hide (H.2.later B5);clear A0 X5 B5 nd Z5;go_wp2_with fail;refine (zhw r _).mono ?_;rintro e w6 ⟨rfl,b6⟩;have iJ:=hide (gv.later b6);clear b6 lx cd dF;obtain ⟨q,Hq⟩:∃ q,Hid (gU r=q):=⟨_,rfl⟩;rw [Hq.out];obtain ⟨w7,cd,X7,B7,Z7⟩:=made w6 q w6.heap.size rfl;have fj:=hide (iJ.later B7)
   have lq:=jn X7.at
   have c0:=X7.at.c0;have c1:w7.cell? ⟨w6.heap.size,1,none⟩=some (.int .i64 q.hi):=X7.at.c1;clear X7 B7 Z7;by_cases hc:q.lo <= q.hi
   ·have HN:Hid (aE (L.take (k+1))=acc++[q]):=by show _=_;rw [HT.out];simp [aE,Hq.out,hc]
    go_wp2_with (at_builtin;refine fj.append q _ rfl (by omega) rfl (.tmp 20) (.tmp 22) rfl acc.length rfl rfl rfl ?_;intro g8 c8 w8 O8);go_roundw
    case rel=>exact ⟨k+1,some ⟨g8,0,none⟩,c8,acc++[q],by omega,by simp;omega,by simp,by go_num,HN.symm,O8⟩
    case measure=>simp [intOf];omega
   ·have HN:Hid (aE (L.take (k+1))=acc):=by show _=_;rw [HT.out];simp [aE,Hq.out,hc]
    go_wp2_with fail;go_roundw
    case rel=>exact ⟨k+1,ap,c,acc,by omega,by omega,rfl,by go_num,HN.symm,fj.out⟩
    case measure=>simp [intOf];omega
  ·obtain rfl:k=n:=by omega
   have HE:Hid (acc=aE L):=by show _=_;rw [H.1,List.take_of_length_le (by rw [HL.out];exact Nat.le_refl _)]
   have aI:=hide H.2.below
   cases ap with
   | none =>
    obtain ⟨S4,_⟩:=H.2.src (by omega);obtain ⟨e0,rfl⟩:=S4.nil rfl;rw [e0];have iy:acc=[]:=List.eq_nil_of_length_eq_zero e0
    have HN:Hid (∀ m,mem [] m↔mem L m):=fun m=>by rw [<- yK L m,<- HE.out,iy]
    clear S4 e0 iy;go_wp2_with fail;refine (su none 0 _).mono ?_;rintro e w5 ⟨rfl,rfl⟩;go_wp2_with fail;refine (zbz none 0 0 [] _ (aV.empty _) List.Pairwise.nil (fun x hx=>by cases hx)).mono ?_;rintro e w6 ⟨a6,n6,c6,R6,rfl,S6,b6,f6,p6⟩;have HF:Hid (dL w w6 (.returned (.slice a6 n6 c6)) (aN L)):=⟨a6,n6,c6,R6,rfl,S6,aI.trans (b6.mono aI.size),(fun ad h=>Nat.le_trans aI.size (f6 ad h)),p6.1,fun m=>(p6.2 m).trans (HN.out m)⟩;clear S6 b6 f6 p6;go_wp2_with fail;go_ret;exact HF.out
   | some ap =>
    obtain ⟨M4,nM,Aw,rQ⟩:=H.2.mr;have lN:=hide M4;have Bi:=hide nM;have nI:=hide Aw;have tj:=hide rQ;clear M4 nM Aw rQ;obtain ⟨m,hm⟩:∃ m,acc.length=m:=⟨_,rfl⟩;have HM:=hide hm;rw [hm] at nJ ⊢;clear hm;go_wp2_with fail;refine (jU ap c m acc.toArray _ lN.out (by rw [List.size_toArray];exact HM) (by omega)).mono ?_;rintro e w5 ⟨rfl,d5,hp,hs,hz,M5,b5⟩;have HP:=hide hp;have m9:=hide hs;have D4:=hide (M5.rsrc m c hz (by rw [<- HM.out];exact nI) tj.out (by omega));have cZ:Hid (Below w.heap.size w w5):=aI.trans (b5.mono Bi);clear hp hs hz M5 b5;go_wp2_with fail;refine (zbz (some ap) m c d5.toList _ D4.out m9.out (fun x hx=>wG L x (by rw [<- HE.out];have:=HP.mem_iff.1 hx;simpa using this))).mono ?_;rintro e w6 ⟨a6,n6,c6,R6,rfl,S6,b6,f6,p6⟩
    have HF:Hid (dL w w6 (.returned (.slice a6 n6 c6)) (aN L)):=⟨a6,n6,c6,R6,rfl,S6,cZ.trans (b6.mono cZ.size),(fun ad h=>Nat.le_trans cZ.size (f6 ad h)),p6.1,fun m=>by
     rw [p6.2 m,<- yK L m,<- HE.out]
     exact zff (fun x=>by have:=HP.mem_iff (a:=x);simpa using this) m⟩
    clear S6 b6 f6 p6;go_wp2_with fail;go_ret;exact HF.out
theorem wv (ao:Option Addr) (n cap:Nat) (L:List Rn) (w:World) (hS:aV w ao n cap L) :
  Calls Tryz.prog 141 #[.slice ao n cap] w fun e w'=>lE w w' e (aN L):=(wu ao n cap L w hS).mono fun _ _ h=>h.gives
end
section
open Go.RowKit
attribute [local go_sem ↓] kV kG
attribute [local go_sem] zR zz zM qp
theorem aV.tail' {w:World} {b o m c:Nat} {r:Rn} {L:List Rn} (h:aV w (some ⟨b,o,none⟩) m c (r :: L)):aV w (if c=1 then some ⟨b,o,none⟩ else some ⟨b,o+2,none⟩) (m - 1) (c - 1) L:=by
 by_cases e:c=1
 ·rw [if_pos e];have h1:=h.len;have h2:=h.cap;simp at h1;exact ⟨by omega,fun e=>(by cases e),fun ad ha t ht=>by omega,by omega,by omega,by omega⟩
 ·rw [if_neg e];exact h.tail
theorem zd1 (r:Rn) (w:World) (h1:1 <= r.lo) (h2:r.hi <= 1000000000) (h3:r.lo <= r.hi):Calls Tryz.prog 142 #[RV r] w fun e w'=>e = .returned (.int .i64 (r.hi - r.lo+1))/\Below w.heap.size w w':=by
 have HB:=hide (ze w (.cells (RC r) 182));have X1:=zQ w 182 r;have c0:=X1.at.c0;have c1:(w.alloc (.cells (RC r) 182)).cell? ⟨w.heap.size,1,none⟩=some (.int .i64 r.hi):=X1.at.c1
 have e1:IntKind.i64.wrap (r.hi - r.lo)=r.hi - r.lo:=by rw [IntKind.wrap_i64];omega
 have e2:IntKind.i64.wrap (r.hi - r.lo+1)=r.hi - r.lo+1:=by rw [IntKind.wrap_i64];omega
 clear X1;go_enter Tryz.func142,Tryz.ntmps142;go_wp2_with fail;go_ret;exact ⟨by simp,HB.out⟩
theorem zfz:∀ {a:List Rn} {l:Int} (k:Nat),1 <= l -> form l a -> k < a.length -> 1 <= (a.getD k rn0).lo/\(a.getD k rn0).lo <= (a.getD k rn0).hi/\(a.getD k rn0).hi <= 1000000000
 | r :: a,l,0,hl,h,_=>by have:=h.1;have:=h.2.1;have:=h.2.2.1;simp [List.getD];omega
 | r :: a,l,k+1,hl,h,hk=>by
  have:=zfz k (l:=r.hi+2) (by have:=h.1;have:=h.2.1;omega) h.2.2.2 (by simpa using hk);simpa [List.getD] using this
def sv (A:List Rn) (k:Int):Prop:=∃ R,aN A R/\k=sz R
theorem zgu (ao:Option Addr) (n cap:Nat) (A:List Rn) (w:World) (hS:aV w ao n cap A) :
  Calls Tryz.prog 91 #[.slice ao n cap] w fun e w'=>∃ k,e = .returned (.int .i64 k)/\sv A k/\Below w.heap.size w w':=by
 have HS:=hide hS;clear hS;go_enter Tryz.func91,Tryz.ntmps91;go_wp2_with fail;refine (wv ao n cap A _ HS).mono ?_;rintro e w1 ⟨a1,n1,c1,X,rfl,S1,b1,p1⟩;have dg:=hide S1;have fZ:=hide p1;have aM:=hide b1;have HL:Hid (X.length=n1):=S1.len;have hn:=S1.big;have hz:=zbZ p1.1;have HZ:=hide hz.2.1
 have cY:sz X <= 1000000000:=by
  rcases hz.2.1 with e | e
  ·rw [e];simp [sz]
  ·omega
 clear S1 b1 p1 hz;go_wp2_with fail;go_loopw [3,5,9] (fun v _ i wr=>∃ (k:Nat),k <= n1/\v = .int .i64 (sz (X.take k))/\i = .int .i64 k/\Hid (Below w1.heap.size w1 wr)) (fun _ _ i _=>n1 - (intOf i).toNat)
 case atStart=>exact ⟨0,Nat.zero_le _,rfl,rfl,Below.refl _ _⟩
 case round =>
  obtain ⟨k,hk,rfl,rfl,H⟩:=hrel
  rename World=>w4
  have iZ:=bV X 1 k fZ.1;by_cases ak:k < n1
  ·obtain ⟨ad,rfl,A0⟩:=(dg.below H).at k ak;have dF:=jn A0;have Ea:=zfz k (Int.le_refl _) fZ.1 (by rw [HL.out];exact ak);obtain ⟨r,Hr⟩:∃ r,Hid (X.getD k rn0=r):=⟨_,rfl⟩;rw [Hr.out] at dF Ea
   have nd:k < X.length:=by rw [HL.out];exact ak
   have ni:=bV X 1 (k+1) fZ.1
   have HT:Hid (sz (X.take (k+1))=sz (X.take k)+(r.hi - r.lo+1)):=by
    show _=_
    rw [List.take_succ_eq_append_getElem nd,za6,show X[k]=r by rw [<- Hr.out];simp [List.getD,nd]];simp [sz]
   have hT:=HT.out;obtain ⟨s,hs⟩:∃ s,sz (X.take k)=s:=⟨_,rfl⟩;rw [hs] at iZ hT ⊢;have MH:=hide hs
   have cF:IntKind.i64.wrap (s+(r.hi - r.lo+1))=s+(r.hi - r.lo+1):=by rw [IntKind.wrap_i64];omega
   obtain ⟨w5,cd,X5,B5,Z5⟩:=made w4 r w4.heap.size rfl
   have lx:=jn X5.at
   have cZ:=wTr H B5;have fI:=hide (zd1 r w5 Ea.1 Ea.2.2 Ea.2.1);clear A0 X5 B5 Z5 nd hT hs ni Ea;go_wp2_with fail;refine fI.mono ?_;rintro e w6 ⟨rfl,b6⟩;have eC:=wTr cZ b6;clear b6;go_wp2_with fail;go_roundw
   case rel=>exact ⟨k+1,by omega,by rw [HT.out,MH.out],by go_num,eC⟩
   case measure=>simp [intOf];omega
  ·obtain rfl:k=n1:=by omega
   have HF:Hid (sv A (sz (X.take k))):=⟨X,fZ.out,by rw [List.take_of_length_le (by rw [HL.out];exact Nat.le_refl _)]⟩;have rW:=wTr aM H.out;go_wp2_with fail;go_ret;exact ⟨_,rfl,HF.out,rW.out⟩
end
section

def EB:List Rn -> Int -> Int
 | [],_=>0
 | r :: a,k=>if k <= r.hi - r.lo+1 then r.lo+k - 1 else EB a (k - (r.hi - r.lo+1))
def pk (a:List Rn) (k:Int):Int:=if k < 1 then 0 else EB a k
def AI:List Rn -> Int -> List Rn
 | [],_=>[]
 | r :: a,n=>if n < r.lo then [] else if n <= r.hi then [⟨r.lo,n⟩] else r :: AI a n
def rk (a:List Rn) (n:Int):Int:=sz (AI a n)
def fst:List Rn -> Int -> Int
 | [],_=>0
 | r :: a,f=>if f <= r.hi then max r.lo f else fst a f
theorem zeC (r:Rn) (a:List Rn):sz (r :: a)=(r.hi - r.lo+1)+sz a:=rfl
end
section

theorem zhY {a:List Rn} (h:form 1 a):0 <= sz a/\sz a <= 1000000000:=by
 have hz:=zbZ h;refine ⟨hz.1,?_⟩;rcases hz.2.1 with e | e
 ·rw [e];simp [sz]
 ·omega
end
section
open Go.RowKit
attribute [local go_sem ↓] kV kG
attribute [local go_sem] zR zz zM qp
def gT (A:List Rn) (k:Int) (L:List Rn):Prop:=form 1 L/\0 <= k/\k <= 1000000000/\(∀ X,aN A X -> k+sz L=sz X)/\(∀ r L',L=r :: L' -> k+2 <= r.lo)/\∃ X,aN A X/\((k=0/\X=L/\∀ r X',X=r :: X' -> r.lo≠1)∨X=⟨1,k⟩ :: L)
def li (w w':World) (e:Ending) (A:List Rn):Prop:=∃ k a1 n1 c1 L,e = .returned (.tuple #[.int .i64 k,.slice a1 n1 c1])/\aV w' a1 n1 c1 L/\gT A k L/\Below w.heap.size w w'/\∀ ad,a1=some ad -> w.heap.size <= ad.block
theorem zgV (ao:Option Addr) (n cap:Nat) (A:List Rn) (w:World) (hS:aV w ao n cap A) :
  Calls Tryz.prog 155 #[.slice ao n cap] w fun e w'=>li w w' e A:=by
 have HS:=hide hS;clear hS;go_enter Tryz.func155,Tryz.ntmps155;go_wp2_with fail;refine (wu ao n cap A _ HS).mono ?_;rintro e w1 ⟨a1,n1,c1,X,rfl,S1,b1,f1',p1⟩;have BV:=hide f1';have dg:=hide S1;have fZ:=hide p1;have aM:=hide b1;have hn:=S1.big;have hc:=S1.cap;have Md:=S1.room;unfold maxLen at Md;have HL:Hid (X.length=n1):=S1.len;clear S1 b1 p1 f1'
 cases X with
 | nil =>
  obtain rfl:n1=0:=HL.symm;have HF:Hid (gT A 0 []):=⟨trivial,by omega,by omega,fun Y hY=>by rw [hY.unique fZ.out];simp,(fun r L' e=>by cases e),⟨[],fZ.out,Or.inl ⟨rfl,rfl,(fun r X' e=>by cases e)⟩⟩⟩;go_wp2_with fail;go_ret2;exact (⟨_,_,_,_,_,rfl,dg.out,HF.out,aM.out,BV.out⟩:li _ _ _ _)
 | cons r X =>
  have uw:0 < n1:=by rw [<- HL.out];simp
  obtain ⟨ad,rfl,_⟩:=dg.at 0 (by omega);obtain ⟨b,o,rfl⟩:=dg.spot (by omega);obtain ⟨q0,q1⟩:=dg.nums 0 (by omega);simp [List.getD] at q0 q1;have f1:=fZ.1.1;have f2:=fZ.1.2.1;have f3:=fZ.1.2.2.1
  have d0:((n1:Int) == 0)=false:=by simp;omega
  have HT:=hide dg.tail';by_cases h1:r.lo=1
  ·have d1:(r.lo != 1)=false:=by simpa using h1
   have HF:Hid (gT A r.hi X):=⟨jZ (by omega) fZ.1.2.2.2,by omega,by omega,fun Y hY=>by rw [hY.unique fZ.out,zeC];omega,fun s L' e=>by
    have:=fZ.1.2.2.2;rw [e] at this
    exact this.1,⟨_,fZ.out,Or.inr (by obtain ⟨r1,r2⟩:=r;simp only at h1;subst h1;rfl)⟩⟩
   clear h1;by_cases hcc:c1=1
   ·subst hcc
    obtain rfl:n1=1:=by omega
    have C3:aV w1 (some ⟨b,o,none⟩) 0 0 X:=HT.out;replace HT:=hide C3;clear C3;have k1:=cell_regrown q1;go_wp2_with fail;refine wp_region_quiet_below (by kernel_rfl) (by kernel_rfl) ?_
    repeat (with_reducible (refine wpQuiet_step ?_);intro K hK;go_simp;(try rw [if_neg (by unfold undef;simp)]);first | (with_reducible (refine hK _ ?_);clear hK K) | (apply Exists.intro;refine ⟨fun _=>?_,hK _ ?_⟩;(fail);clear hK K))
    with_reducible (refine wpQuiet_nil ?_)
    intro w5 hw';obtain ⟨⟨dq,osq⟩,hw''⟩:=hw'
    have b5:Below w1.heap.size w1 w5:=by rw [hw''];exact below_regrown w1 dq osq
    clear hw'' dq osq;have If:=hide (HT.below b5);have cZ:=wTr aM b5;have HN:Hid (li w w5 (.returned (.tuple #[.int .i64 r.hi,.slice (some ⟨b,o,none⟩) 0 0])) A):=⟨_,_,_,_,X,rfl,If.out,HF.out,cZ.out,(fun ad h=>by obtain rfl:=Option.some.inj h;exact BV.out ⟨b,o,none⟩ rfl)⟩;clear b5 k1;go_wp2_with fail;go_ret2;exact HN.out
   ·have C3:=HT.out;rw [if_neg hcc] at C3;replace HT:=hide C3;clear C3;have k1:=cell_regrown q1
    have OP:(1:Int) <= (n1:Int):=by omega
    go_wp2_with fail;refine wp_region_quiet_below (by kernel_rfl) (by kernel_rfl) ?_
    repeat (with_reducible (refine wpQuiet_step ?_);intro K hK;go_simp;(try rw [if_neg (by unfold undef;simp)]);first | (with_reducible (refine hK _ ?_);clear hK K) | (apply Exists.intro;refine ⟨fun _=>?_,hK _ ?_⟩;(fail);clear hK K))
    with_reducible (refine wpQuiet_nil ?_)
    intro w5 hw';obtain ⟨⟨dq,osq⟩,hw''⟩:=hw'
    have b5:Below w1.heap.size w1 w5:=by rw [hw''];exact below_regrown w1 dq osq
    clear hw'' dq osq;have If:=hide (HT.below b5);have cZ:=wTr aM b5;have HN:Hid (li w w5 (.returned (.tuple #[.int .i64 r.hi,.slice (some ⟨b,o+2,none⟩) (n1 - 1) (c1 - 1)])) A):=⟨_,_,_,_,X,rfl,If.out,HF.out,cZ.out,(fun ad h=>by obtain rfl:=Option.some.inj h;exact BV.out ⟨b,o,none⟩ rfl)⟩;clear b5 k1;go_wp2_with fail;go_ret2;exact HN.out
  ·have d1:(r.lo != 1)=true:=by simpa using h1
   have HF:Hid (gT A 0 (r :: X)):=⟨fZ.1,by omega,by omega,fun Y hY=>by rw [hY.unique fZ.out];simp,fun s L' e=>by
    injection e with e1 e2;subst e1
    omega,⟨_,fZ.out,Or.inl ⟨rfl,rfl,fun s X' e=>by injection e with e1 e2;subst e1;exact h1⟩⟩⟩
   clear h1;go_wp2_with fail;go_ret2;exact (⟨_,_,_,_,_,rfl,dg.out,HF.out,aM.out,BV.out⟩:li _ _ _ _)
end
section
open Go.RowKit

def au:List Rn -> Int
 | []=>0
 | r :: _=>if r.lo=1 then r.hi else 0
def a8:List Rn -> List Rn
 | []=>[]
 | r :: t=>if r.lo=1 then t else r :: t
def tag (r:Nat) (L:List Rn):List Sn:=L.map (fun x=>⟨(r:Int),x.lo,x.hi⟩)
def aJ (N:Nat -> List Rn):Nat -> List Sn
 | 0=>[]
 | k+1=>aJ N k++tag k (a8 (N k))
def dW (N:Nat -> List Rn):Pst:=⟨V.aR (fun r=>au (N r)),aJ N 16⟩
theorem zfi {A X:List Rn} {k:Int} {L:List Rn} (h:gT A k L) (hX:aN A X):k=au X/\L=a8 X:=by
 obtain ⟨_,_,_,_,_,Y,hY,h | h⟩:=h
 ·obtain rfl:=hX.unique hY;obtain ⟨rfl,rfl,hr⟩:=h
  cases X with
  | nil=>exact ⟨rfl,rfl⟩
  | cons r t =>
   have:=hr r t rfl;simp [au,a8,this]
 ·obtain rfl:=hX.unique hY;subst h;simp [au,a8]
theorem gT.norm {A:List Rn} {k:Int} {L:List Rn} (h:gT A k L):∃ X,aN A X/\k=au X/\L=a8 X:=by
 obtain ⟨X,hX,_⟩:=h.2.2.2.2.2;exact ⟨X,hX,zfi h hX⟩
theorem jY {X:List Rn} (h:form 1 X):0 <= au X/\au X <= 1000000000:=by
 cases X with
 | nil=>simp [au]
 | cons r t =>
  have h1:=h.1;have h2:=h.2.1;have h3:=h.2.2.1;simp only [au]
  split <;> omega
theorem vI (X:List Rn):(a8 X).length <= X.length:=by
 cases X with
 | nil=>simp [a8]
 | cons r t=>simp only [a8];split <;> simp
theorem ke (r:Nat) (L:List Rn):(tag r L).length=L.length:=by simp [tag]
theorem j0 {N N':Nat -> List Rn}:∀ k,(∀ r,r < k -> N r=N' r) -> aJ N k=aJ N' k
 | 0,_=>rfl
 | k+1,h=>by rw [aJ,aJ,j0 k (fun r hr=>h r (by omega)),h k (by omega)]
theorem xU {N:Nat -> List Rn}:∀ k,(∀ r,r < k -> form 1 (N r)) -> (aJ N k).length <= k * 500000001
 | 0,_=>by simp [aJ]
 | k+1,h=>by
  have h1:=xU k (fun r hr=>h r (by omega));have h2:=vI (N k);have h3:=qT (Int.le_refl _) (h k (by omega));rw [aJ,List.length_append,ke];omega
theorem yX {f g:Nat -> Int}:∀ k,(∀ r,r < k -> f r=g r) -> V.dN f k=V.dN g k
 | 0,_=>rfl
 | k+1,h=>by rw [V.dN,V.dN,yX k (fun r hr=>h r (by omega)),h k (by omega)]
theorem xX {f g:Nat -> Int} (h:∀ r,r < 16 -> f r=g r):V.aR f=V.aR g:=by
 have ht:V.top f=V.top g:=yX 16 h;have u6:=V.vT g;unfold V.aR;rw [ht];apply List.map_congr_left;intro r hr;exact h r (by have:=List.mem_range.1 hr;omega)
theorem zbO {N N':Nat -> List Rn} (h:∀ r,r < 16 -> N r=N' r):dW N=dW N':=by
 unfold dW;rw [xX (fun r hr=>by rw [h r hr]),j0 16 h]
def af (G:Nat -> List Rn) (P:Pst):Prop:=∃ N,(∀ r,r < 16 -> aN (G r) (N r))/\P=dW N
theorem af.unique {G G':Nat -> List Rn} {P P':Pst} (h:af G P) (h':af G' P') (e:∀ r,r < 16 -> ∀ n,mem (G r) n↔mem (G' r) n):P=P':=by
 obtain ⟨N,hN,rfl⟩:=h;obtain ⟨N',Af,rfl⟩:=h';exact zbO fun r hr=>jO (Int.le_refl _) (hN r hr).1 (Af r hr).1 (fun n=>((hN r hr).2 n).trans ((e r hr n).trans ((Af r hr).2 n).symm))
theorem zdF {f:Nat -> Int} (hf:∀ r,r < 16 -> 0 <= f r/\f r <= 1000000000) (r:Nat) (hr:r < 16):V.at' (V.aR f) r=f r:=by
 unfold V.at';rw [if_pos hr]
 have key:∀ k,V.dN f k <= r -> r < k -> f r=0:=by
  intro k
  induction k with
  | zero=>intro _ h;omega
  | succ k ih =>
   intro h1 h2;rw [V.dN] at h1;by_cases h0:f k=0
   ·rw [if_pos h0] at h1;by_cases e:r=k
    ·rw [e];exact h0
    ·exact ih h1 (by omega)
   ·rw [if_neg h0] at h1;omega
 have hb:=hf r hr;by_cases h:r < V.top f
 ·have:(V.aR f).getD r 0=f r:=by simp [V.aR,List.getD,h]
  rw [this];unfold V.fE;rw [if_neg (by omega),if_neg (by omega)]
 ·have h0:f r=0:=key 16 (by unfold V.top at h;omega) hr
  have:(V.aR f).getD r 0=0:=by
   rw [List.getD,List.getElem?_eq_none (by rw [V.zV];omega)];rfl
  rw [this,h0];rfl
theorem jR (L M:List Sn) (r:Nat):aj (L++M) r=aj L r++aj M r:=by simp [aj]
theorem zaQ (q r:Nat) (L:List Rn):aj (tag q L) r=if q=r then L else []:=by
 induction L with
 | nil=>simp [aj,tag]
 | cons x L ih =>
  have e:tag q (x :: L)=[(⟨(q:Int),x.lo,x.hi⟩:Sn)]++tag q L:=rfl;rw [e,jR,ih];by_cases h:q=r
  ·subst h;simp [aj]
  ·have:¬ (q:Int)=(r:Int):=by omega
   simp [aj,h,this]
theorem yJ (N:Nat -> List Rn) (r:Nat):∀ k,aj (aJ N k) r=if r < k then a8 (N r) else []
 | 0=>by simp [aJ,aj]
 | k+1=>by
  rw [aJ,jR,yJ N r k,zaQ];by_cases h:k=r
  ·subst h;simp
  ·by_cases h':r < k
   ·simp [h,h',show r < k+1 by omega]
   ·simp [h,h',show ¬ r < k+1 by omega]
theorem zaE {X:List Rn} (h:form 1 X) (n:Int):mem (aZ (au X)++a8 X) n↔mem X n:=by
 cases X with
 | nil=>simp [au,a8,aZ]
 | cons r t =>
  have h1:=h.1;have h2:=h.2.1;have h3:=h.2.2.1;by_cases e:r.lo=1
  ·have hp:0 < r.hi:=by omega
   have hr:(⟨1,r.hi⟩:Rn)=r:=by cases r;simp_all
   simp [au,a8,e,aZ,hp,hr]
  ·simp [au,a8,e,aZ]
theorem zZ {G:Nat -> List Rn} {P:Pst} (h:af G P) (r:Nat) (hr:r < 16) (n:Int):mem (aa P r) n↔mem (G r) n:=by
 obtain ⟨N,hN,rfl⟩:=h;have hf:∀ r,r < 16 -> 0 <= au (N r)/\au (N r) <= 1000000000:=fun r hr=>jY (hN r hr).1;unfold aa dW;dsimp only;rw [zdF hf r hr,yJ,if_pos hr,zaE (hN r hr).1];exact (hN r hr).2 n
theorem j6 {G:Nat -> List Rn} {P:Pst} (h:af G P):P.cloud.length <= 8000000016/\P.vec.length <= 16:=by
 obtain ⟨N,hN,rfl⟩:=h;have:=xU (N:=N) 16 (fun r hr=>(hN r hr).1);refine ⟨by show (aJ N 16).length <= _;omega,by show (V.aR _).length <= _;rw [V.zV];exact V.vT _⟩
def dA (n:Nat) (p:Pv):Prop:=(∀ ad,p.vo=some ad -> n <= ad.block)/\∀ ad,p.co=some ad -> n <= ad.block
theorem dA.mono {n m:Nat} {p:Pv} (h:dA n p) (hm:m <= n):dA m p:=⟨fun ad e=>Nat.le_trans hm (h.1 ad e),fun ad e=>Nat.le_trans hm (h.2 ad e)⟩
def ct (w w':World) (e:Ending) (Q:Pst -> Prop):Prop:=∃ p:Pv,e = .returned (PV p)/\am w' p/\dA w.heap.size p/\Below w.heap.size w w'/\Q p.P
theorem ji {w w':World} {p:Pv} (h:am w p) (hv:∀ ad,p.vo=some ad -> w'.heap[ad.block]? = w.heap[ad.block]?) (hc:∀ ad,p.co=some ad -> w'.heap[ad.block]? = w.heap[ad.block]?):am w' p:=⟨h.vec.off hv,h.cloud.off hc,h.big⟩
theorem qu {w W:World} {g:Nat} {p:Pv} (hP:av W g pv0) (hS:am W p) (hn:dA (g+1) p) (hb:Below w.heap.size w W) (hg:w.heap.size <= g):(stP (.pointer (some ⟨g,0,none⟩)) (PV p)).run Tryz.prog W = .ok () (W.setRow g (PC p))/\av (W.setRow g (PC p)) g p/\am (W.setRow g (PC p)) p/\dA w.heap.size p/\Below w.heap.size w (W.setRow g (PC p)):=by
 refine ⟨qM hP,setRow_heap _ _ _ _ _ _ hP,ji hS (fun ad h=>setRow_other _ _ _ _ (fun e=>?_)) (fun ad h=>setRow_other _ _ _ _ (fun e=>?_)),hn.mono (by omega),zh hb hg⟩
 ·have:=hn.1 ad h;omega
 ·have:=hn.2 ad h;omega
theorem af.congr {G G':Nat -> List Rn} {P:Pst} (h:af G P) (e:∀ r,r < 16 -> G r=G' r):af G' P:=by
 obtain ⟨N,hN,rfl⟩:=h;exact ⟨N,fun r hr=>by rw [<- e r hr];exact hN r hr,rfl⟩
end
section
open Go.RowKit

theorem zio:∀ (R:List Rn) (t:Nat),t < R.length -> (tn R).getD (2 * t) 0=(R.getD t rn0).lo/\(tn R).getD (2 * t+1) 0=(R.getD t rn0).hi+1
 | [],t,h=>by simp at h
 | r :: R,0,_=>⟨rfl,rfl⟩
 | r :: R,t+1,h=>by
  have ih:=zio R t (by simpa using h)
  have e1:2 * (t+1)=2 * t+1+1:=by omega
  have e2:2 * (t+1)+1=2 * t+1+1+1:=by omega
  rw [e1];simp only [tn,List.getD_cons_succ];exact ih
theorem zcd (R:List Rn) (t:Nat) (h:t < R.length):R.take (t+1)=R.take t++[R.getD t rn0]:=by
 rw [List.take_succ_eq_append_getElem h];simp [List.getD,h]
theorem zaK:∀ {R:List Rn} {l:Int},form l R -> ∀ t,t < R.length -> l <= (R.getD t rn0).lo/\(R.getD t rn0).lo <= (R.getD t rn0).hi/\(R.getD t rn0).hi <= 1000000000
 | R,l,h,t,ht=>by
  have hm:R.getD t rn0∈R:=by
   have:R.getD t rn0=R[t]:=by simp [List.getD,ht]
   rw [this];exact List.getElem_mem ht
  exact zcr h _ hm
theorem zd6 {R:List Rn} (h:form 1 R) (t:Nat) (ht:t < R.length) (e:(R.getD t rn0).lo=1):t=0:=by
 cases R with
 | nil=>simp at ht
 | cons r R =>
  cases t with
  | zero=>rfl
  | succ t =>
   exfalso;have h1:=h.1;have h2:=h.2.1;have:=(zaK h.2.2.2 t (by simpa using ht)).1;rw [List.getD_cons_succ] at e;omega
theorem zfj {R:List Rn} (h:form 1 R) (t:Nat) (ht:t < R.length) (e:(R.getD t rn0).lo=1):au (R.take t)=0/\au (R.take (t+1))=(R.getD t rn0).hi/\a8 (R.take (t+1))=a8 (R.take t)/\1 <= (R.getD t rn0).hi:=by
 obtain rfl:=zd6 h t ht e;rw [zcd R 0 ht];have:=(zaK h 0 ht).2.1;refine ⟨rfl,?_,?_,by omega⟩
 ·simp only [List.take_zero,List.nil_append,au];rw [if_pos e]
 ·simp only [List.take_zero,List.nil_append,a8];rw [if_pos e]
theorem zeT {R:List Rn} (t:Nat) (ht:t < R.length) (e:¬ (R.getD t rn0).lo=1):au (R.take (t+1))=au (R.take t)/\a8 (R.take (t+1))=a8 (R.take t)++[R.getD t rn0]:=by
 rw [zcd R t ht];generalize R.getD t rn0=x at e
 cases hr:R.take t with
 | nil=>simp [au,a8,e]
 | cons r q =>
  simp only [List.cons_append,au,a8,true_and]
  split <;> simp
theorem zgo (r:Nat) (L:List Rn) (x:Rn):tag r (L++[x])=tag r L++[⟨(r:Int),x.lo,x.hi⟩]:=by simp [tag]
def vfn (N:Nat -> List Rn) (y t q:Nat):Int:=if q < y then au (N q) else if q=y then au ((N y).take t) else 0
def lP (N:Nat -> List Rn) (y t:Nat):Nat:=if au ((N y).take t)=0 then V.dN (fun q=>au (N q)) y else y+1
def vcl (N:Nat -> List Rn) (y t:Nat):List Sn:=aJ N y++tag y (a8 ((N y).take t))
theorem zes (N:Nat -> List Rn) (y:Nat):lP N y 0=V.dN (fun q=>au (N q)) y:=by simp [lP,au]
theorem zgg (N:Nat -> List Rn) (y:Nat):lP N y (N y).length=V.dN (fun q=>au (N q)) (y+1):=by
 rw [lP,List.take_length,V.dN]
theorem zgm (N:Nat -> List Rn) (y:Nat):vcl N y 0=aJ N y:=by simp [vcl,a8,tag]
theorem zim (N:Nat -> List Rn) (y:Nat):vcl N y (N y).length=aJ N (y+1):=by rw [vcl,List.take_length,aJ]
theorem zil (N:Nat -> List Rn) (y q:Nat):vfn N y (N y).length q=vfn N (y+1) 0 q:=by
 unfold vfn;rw [List.take_length];by_cases h1:q < y
 ·rw [if_pos h1,if_pos (by omega)]
 ·rw [if_neg h1];by_cases h2:q=y
  ·subst h2;rw [if_pos rfl,if_pos (by omega)]
  ·rw [if_neg h2,if_neg (by omega)];by_cases h3:q=y+1
   ·rw [if_pos h3];simp [au]
   ·rw [if_neg h3]
theorem zgj {N:Nat -> List Rn} {y t:Nat} (h:form 1 (N y)) (ht:t < (N y).length) (e:((N y).getD t rn0).lo=1) (q:Nat):vfn N y (t+1) q=if q=y then ((N y).getD t rn0).hi else vfn N y t q:=by
 unfold vfn;rw [(zfj h t ht e).2.1];by_cases h1:q < y
 ·rw [if_pos h1,if_neg (by omega),if_pos h1]
 ·rw [if_neg h1];by_cases h2:q=y
  ·rw [if_pos h2,if_pos h2]
  ·rw [if_neg h2,if_neg h2,if_neg h1,if_neg h2]
theorem zgi {N:Nat -> List Rn} {y t:Nat} (ht:t < (N y).length) (e:¬ ((N y).getD t rn0).lo=1) (q:Nat):vfn N y (t+1) q=vfn N y t q:=by
 unfold vfn;rw [(zeT t ht e).1]
def V16 (f:Nat -> Int):Array Value:=((List.range 16).map (fun q=>Value.int .i64 (f q))).toArray
theorem zf7 {f g:Nat -> Int} (h:∀ q,f q=g q):V16 f=V16 g:=by unfold V16;rw [funext h]
theorem zi2 (f:Nat -> Int) (y:Nat) (z:Int):(V16 f).setIfInBounds y (.int .i64 z)=V16 (fun q=>if q=y then z else f q):=by
 apply Array.ext
 ·simp [V16]
 ·intro i h1 h2;simp [V16] at h2;by_cases h:y=i
  ·subst h;simp [V16]
  ·have:¬ i=y:=fun e=>h e.symm;simp [V16,h,this]
structure FoI (w W:World) (T:Nat -> Si) (f:Nat -> Int) (co:Option Addr) (cn cc:Nat) (cl:List Sn):Prop where
 a:aS W w.heap.size 141 T
 z:av W (w.heap.size+1) pv0
 p:av W (w.heap.size+1+1) ⟨none,0,0,co,cn,cc,⟨[],cl⟩⟩
 v:W.heap[w.heap.size+1+1+1]? = some (.cells (V16 f) 3 (0,0))
 o:fh w.heap.size (w.heap.size+1+1+1+1) w W co cc cl
 l:cl.length=cn
theorem fh.set {B0 B:Nat} {w w':World} {ao:Option Addr} {cap:Nat} {acc:List Sn} (O:fh B0 B w w' ao cap acc) {q t:Nat} {v:Value} (h1:B0 <= q) (h2:q < B):fh B0 B w (w'.setCell ⟨q,t,none⟩ v) ao cap acc:=by
 refine ⟨⟨O.own.1,?_⟩,V.qd O.below h1,by simpa [World.setCell] using O.hB,O.hB0⟩;rcases O.own.2 with h | ⟨g,cap2,cur,hv,dU,dx,r⟩
 ·exact Or.inl h
 ·exact Or.inr ⟨g,cap2,cur,hv,dU,(zw (by omega)).trans dx,r⟩
theorem FoI.congr {w W:World} {T:Nat -> Si} {f f':Nat -> Int} {co:Option Addr} {cn cc:Nat} {cl cl':List Sn} (I:FoI w W T f co cn cc cl) (h:∀ q,f q=f' q) (hc:cl=cl'):FoI w W T f' co cn cc cl':=by
 obtain rfl:f=f':=funext h;subst hc;exact I
theorem FoI.vset {w W:World} {T:Nat -> Si} {f:Nat -> Int} {co:Option Addr} {cn cc:Nat} {cl:List Sn} (I:FoI w W T f co cn cc cl) (y:Nat) (z:Int):FoI w (W.setCell ⟨w.heap.size+1+1+1,y,none⟩ (.int .i64 z)) T (fun q=>if q=y then z else f q) co cn cc cl:=by
 have hs:∀ {q:Nat},q≠w.heap.size+1+1+1 -> (W.setCell ⟨w.heap.size+1+1+1,y,none⟩ (.int .i64 z)).heap[q]? = W.heap[q]?:=fun h=>zw h;refine ⟨(hs (by omega)).trans I.a,(hs (by omega)).trans I.z,(hs (by omega)).trans I.p,?_,I.o.set (by omega) (by omega),I.l⟩;have h:=I.v;simp [World.setCell,h,Array.getElem?_modify,zi2]
theorem FoI.cset {w W W2:World} {T:Nat -> Si} {f:Nat -> Int} {co:Option Addr} {cn cc:Nat} {cl:List Sn} (I:FoI w W T f co cn cc cl) {g c2:Nat} {e:Sn} (O:fh w.heap.size (w.heap.size+1+1+1+1) w W2 (some ⟨g,0,none⟩) c2 (cl++[e])) (hk:∀ k,k < w.heap.size+1+1+1+1 -> W2.heap[k]? = W.heap[k]?) {v:Value} (hv:v = .slice (some ⟨g,0,none⟩) (cn+1) c2) :
  FoI w (W2.setCell ⟨w.heap.size+1+1,1,none⟩ v) T f (some ⟨g,0,none⟩) (cn+1) c2 (cl++[e]):=by
 subst hv;have hs:∀ {q:Nat},q≠w.heap.size+1+1 -> (W2.setCell ⟨w.heap.size+1+1,1,none⟩ (.slice (some ⟨g,0,none⟩) (cn+1) c2)).heap[q]? = W2.heap[q]?:=fun h=>zw h;refine ⟨(hs (by omega)).trans ((hk _ (by omega)).trans I.a),(hs (by omega)).trans ((hk _ (by omega)).trans I.z),?_,(hs (by omega)).trans ((hk _ (by omega)).trans I.v),O.set (by omega) (by omega),by rw [List.length_append,I.l];rfl⟩;have h:=(hk _ (by omega)).trans I.p;unfold av;simp [World.setCell,h,Array.getElem?_modify,PC]
end
end Go.Proofs.YtjffpimfngdggaaGreat
