/- Shf RMr RNm RNo RSz RPk RCo RLd PCl QFm -/
import Derived.Test.YtaphmhbmhcahaabGreatTk
import Derived.Shelf.SlSortCmp.WholeK
import Derived.Test.YtaphmhbmhcahaabGreatProg
import Derived.Test.YtaphmhbmhcahaabGreatSn01
import Derived.Shelf.SlSortCmp.NoneTotal
import Derived.Shelf.SlicesQ.Reverse
import Derived.Lib.OwnBridge
import Derived.Test.YtaphmhbmhcahaabGreatSn03
import Derived.Test.YtaphmhbmhcahaabGreatSn04
set_option maxRecDepth 100000
set_option maxHeartbeats 4000000
namespace Go.Proofs
open Go.Shelf
def Tryz.sortR_ren:Go.Shelf.Ren:=⟨fun | 6=>132 | 15=>121 | 14=>162 | 28=>150 | 29=>151 | 20=>187 | 21=>188 | 22=>189 | 23=>190 | 24=>191 | 25=>192 | 26=>193 | 27=>194 | 46=>204 | 47=>176 | 48=>177 | 49=>205 | 50=>206 | 57=>208 | n=>n,fun | 22=>67 | 24=>105 | 25=>166 | 3=>3 | 39=>154 | 0=>0 | 53=>181 | 55=>183 | 4=>4 | 46=>175 | 45=>174 | 50=>155 | 5=>5 | 9=>9 | 66=>199 | 70=>203 | 76=>215 | 77=>157 | n=>n,fun | n=>n⟩
theorem Tryz.sortR:Go.Proofs.SlLaysF0.n6 Tryz.prog Tryz.sortR_ren:={
 mixed:=by kernel_rfl
 f6:=⟨Tryz.f132.name,by decide,Tryz.func132.trans (congrArg some (by kernel_rfl))⟩
 f14:=⟨Tryz.f162.name,by decide,Tryz.func162.trans (congrArg some (by kernel_rfl))⟩
 f15:=Tryz.func121.trans (congrArg some (by kernel_rfl))
 f20:=⟨Tryz.f187.name,by decide,Tryz.func187.trans (congrArg some (by kernel_rfl))⟩
 f21:=⟨Tryz.f188.name,by decide,Tryz.func188.trans (congrArg some (by kernel_rfl))⟩
 f22:=⟨Tryz.f189.name,by decide,Tryz.func189.trans (congrArg some (by kernel_rfl))⟩
 f23:=⟨Tryz.f190.name,by decide,Tryz.func190.trans (congrArg some (by kernel_rfl))⟩
 f24:=⟨Tryz.f191.name,by decide,Tryz.func191.trans (congrArg some (by kernel_rfl))⟩
 f25:=⟨Tryz.f192.name,by decide,Tryz.func192.trans (congrArg some (by kernel_rfl))⟩
 f26:=⟨Tryz.f193.name,by decide,Tryz.func193.trans (congrArg some (by kernel_rfl))⟩
 f27:=⟨Tryz.f194.name,by decide,Tryz.func194.trans (congrArg some (by kernel_rfl))⟩
 f28:=Tryz.func150.trans (congrArg some (by kernel_rfl))
 f29:=Tryz.func151.trans (congrArg some (by kernel_rfl))
 f46:=⟨Tryz.f204.name,by decide,Tryz.func204.trans (congrArg some (by kernel_rfl))⟩
 f47:=Tryz.func176.trans (congrArg some (by kernel_rfl))
 f48:=Tryz.func177.trans (congrArg some (by kernel_rfl))
 f49:=⟨Tryz.f205.name,by decide,Tryz.func205.trans (congrArg some (by kernel_rfl))⟩
 f50:=⟨Tryz.f206.name,by decide,Tryz.func206.trans (congrArg some (by kernel_rfl))⟩
 f57:=⟨Tryz.f208.name,by decide,Tryz.func208.trans (congrArg some (by kernel_rfl))⟩
 t0:=Tryz.underlying0
 a0:=Tryz.isAgg0
 z0:=Tryz.sizeOf0
 v0:=Tryz.zeroValue0
 t3:=Tryz.underlying3
 a3:=Tryz.isAgg3
 z3:=Tryz.sizeOf3
 v3:=Tryz.zeroValue3
 t4:=Tryz.underlying4
 a4:=Tryz.isAgg4
 z4:=Tryz.sizeOf4
 v4:=Tryz.zeroValue4
 t5:=Tryz.underlying5
 a5:=Tryz.isAgg5
 z5:=Tryz.sizeOf5
 v5:=Tryz.zeroValue5
 t9:=Tryz.underlying9
 a9:=Tryz.isAgg9
 z9:=Tryz.sizeOf9
 v9:=Tryz.zeroValue9
 t22:=Tryz.underlying67
 a22:=Tryz.isAgg67
 z22:=Tryz.sizeOf67
 v22:=Tryz.zeroValue67
 t25:=Tryz.underlying166
 a25:=Tryz.isAgg166
 z25:=Tryz.sizeOf166
 v25:=Tryz.zeroValue166
 t39:=Tryz.underlying154
 a39:=Tryz.isAgg154
 z39:=Tryz.sizeOf154
 v39:=Tryz.zeroValue154
 t45:=Tryz.underlying174
 a45:=Tryz.isAgg174
 z45:=Tryz.sizeOf174
 v45:=Tryz.zeroValue174
 t46:=Tryz.underlying175
 a46:=Tryz.isAgg175
 z46:=Tryz.sizeOf175
 v46:=Tryz.zeroValue175
 t50:=Tryz.underlying155
 a50:=Tryz.isAgg155
 z50:=Tryz.sizeOf155
 v50:=Tryz.zeroValue155
 t53:=Tryz.underlying181
 a53:=Tryz.isAgg181
 z53:=Tryz.sizeOf181
 v53:=Tryz.zeroValue181
 t55:=Tryz.underlying183
 a55:=Tryz.isAgg183
 z55:=Tryz.sizeOf183
 v55:=Tryz.zeroValue183
 t66:=Tryz.underlying199
 a66:=Tryz.isAgg199
 z66:=Tryz.sizeOf199
 v66:=Tryz.zeroValue199
 t70:=Tryz.underlying203
 a70:=Tryz.isAgg203
 z70:=Tryz.sizeOf203
 v70:=Tryz.zeroValue203
 t76:=Tryz.underlying215
 a76:=Tryz.isAgg215
 z76:=Tryz.sizeOf215
 v76:=Tryz.zeroValue215
 t77:=Tryz.underlying157
 a77:=Tryz.isAgg157
 z77:=Tryz.sizeOf157
 v77:=Tryz.zeroValue157 }
end Go.Proofs
namespace Go.Proofs.YtaphmhbmhcahaabGreat
section
open Go.RowKit Go.Sort

def encR (r:Rn):List Value:=(RC r).toList
theorem encR_len (r:Rn):(encR r).length=2:=rfl
structure MR (W:World) (ad:Addr) (d:Array Rn):Prop where
 hk:HoldsK encR 2 W ad.block 0 d
 lt:ad.block < W.heap.size
 ha:ad=⟨ad.block,0,none⟩
theorem MR.at {W:World} {ad:Addr} {d:Array Rn} (M:MR W ad d) (i:Nat) (hi:i < d.size):RnAt W (ad.add (i * 2)) d[i]! := by
 have h:∀ c,c < 2 -> W.cell? ⟨ad.block,i * 2+c,none⟩=some (encR d[i]!)[c]! := fun c hc=>by
  have:=(M.hk.cell hi hc).1;rwa [Nat.zero_add] at this
 rw [M.ha,Addr.add_lit,Nat.zero_add];exact ⟨h 0 (by omega),by rw [Addr.add_lit];exact h 1 (by omega)⟩
theorem MR.rsrc {W:World} {ad:Addr} {d:Array Rn} (M:MR W ad d) (n c:Nat) (hn:d.size=n) (hc:n <= c) (hcm:c <= maxLen) (hm:n <= 8796093022207):RSrc W (some ad) n c d.toList:=by
 refine ⟨by simpa using hn,fun h=>(by cases h),fun ad' h t ht=>?_,hc,hcm,hm⟩;obtain rfl:=Option.some.inj h
 have e:d.toList.getD t rn0=d[t]! := by
  rw [List.getD,Array.getElem?_toList,Array.getElem?_eq_getElem (by omega),getElem!_pos d t (by omega)];rfl
 rw [e];exact M.at t (by omega)
theorem OwnR.mr {B0 B:Nat} {w w':World} {ad:Addr} {cap:Nat} {acc:List Rn} (O:OwnR B0 B w w' (some ad) cap acc):MR w' ad acc.toArray/\B <= ad.block/\acc.length <= cap/\cap <= maxLen:=by
 rcases O.own.2 with ⟨h0,_⟩ | ⟨g,c,cur,hv,hbg,hgg,hnc,hcm,hcsz,htake⟩
 ·cases h0
 ·simp only [Value.slice.injEq,Option.some.injEq,true_and] at hv;obtain ⟨rfl,rfl⟩:=hv;refine ⟨⟨fun j hj=>?_,(Array.getElem?_eq_some_iff.1 hgg).1,rfl⟩,hbg,hnc,hcm⟩;rw [Sort.size_flatK] at hj
  have hj':j < acc.length * 2:=by simpa using hj
  refine ⟨?_,by simp [World.frozen?,hgg]⟩;rw [Nat.zero_add,O.own.cellAt j (by omega),Sort.get_flatK _ _ _ _ hj];have e4:=rcs_at acc (j / 2) (j % 2) (by omega) (by omega);rw [show j / 2 * 2+j % 2=j by omega] at e4;rw [e4]
  have e5:acc.toArray[j / 2]! = acc.getD (j / 2) rn0:=by
   rw [getElem!_pos acc.toArray (j / 2) (by simp;omega)];simp [List.getD,show j / 2 < acc.length by omega]
  rw [e5]
  have:j % 2=0∨j % 2=1:=by omega
  rcases this with h | h <;> rw [h] <;> rfl
def cmpI (x y:Int):Int:=if x < y then -1 else if y < x then 1 else 0
theorem isNaN_any (x:Int) (w:World):Calls Tryz.prog 138 #[.int .i64 x] w fun e w'=>e = .returned (.bool false)/\w'=w:=by
 have h:(x != x)=false:=by simp
 go_enter Tryz.func138,Tryz.ntmps138;go_wp2_with fail;go_ret;exact ⟨by simp,rfl⟩
theorem cmp_any (x y:Int) (w:World):Calls Tryz.prog 115 #[.int .i64 x,.int .i64 y] w fun e w'=>e = .returned (.int .i64 (cmpI x y))/\w'=w:=by
 by_cases h1:x < y
 ·have HC:Hid (cmpI x y = -1):=by show _=_;unfold cmpI;rw [if_pos h1]
  go_enter Tryz.func115,Tryz.ntmps115;go_wp2_with (go_at_call 138;refine (isNaN_any _ _).mono ?_;rintro e w' ⟨rfl,rfl⟩);go_ret;exact ⟨ret_int HC.out.symm,rfl⟩
 ·by_cases h2:y < x
  ·have HC:Hid (cmpI x y=1):=by show _=_;unfold cmpI;rw [if_neg h1,if_pos h2]
   go_enter Tryz.func115,Tryz.ntmps115;go_wp2_with (go_at_call 138;refine (isNaN_any _ _).mono ?_;rintro e w' ⟨rfl,rfl⟩);go_ret;exact ⟨ret_int HC.out.symm,rfl⟩
  ·have HC:Hid (cmpI x y=0):=by show _=_;unfold cmpI;rw [if_neg h1,if_neg h2]
   go_enter Tryz.func115,Tryz.ntmps115;go_wp2_with (go_at_call 138;refine (isNaN_any _ _).mono ?_;rintro e w' ⟨rfl,rfl⟩);go_ret;exact ⟨ret_int HC.out.symm,rfl⟩
def byLo (x y:Rn):Int:=cmpI x.lo y.lo
theorem byLo_lt (x y:Rn):ltOf byLo x y=decide (x.lo < y.lo):=by
 unfold ltOf byLo cmpI;by_cases h1:x.lo < y.lo
 ·simp [h1]
 ·by_cases h2:y.lo < x.lo <;> simp [h1,h2]
theorem byLo_swo:SWO (ltOf byLo) where
 irrefl x:=by rw [byLo_lt];simp
 trans x y z h1 h2:=by rw [byLo_lt] at *;simp at *;omega
 ntrans x y z h1 h2:=by rw [byLo_lt] at *;simp at *;omega
def Grew (w w':World):Prop:=∃ q os,w'=grow (w.drewN q) os
theorem grew_two (w:World) (a b:Obj):Grew w ((w.alloc a).alloc b):=by
 refine ⟨0,#[a]++#[b],?_⟩;rw [alloc_eq_grow (w.alloc a) b,alloc_eq_grow w a,grow_grow];rfl
theorem byLo_any (x y:Rn) (w:World):Calls Tryz.prog 133 #[.agg #[.int .i64 x.lo,.int .i64 x.hi],.agg #[.int .i64 y.lo,.int .i64 y.hi]] w fun e w'=>e = .returned (.int .i64 (byLo x y))/\Grew w w':=by
 have HG:=hide (grew_two w (.cells #[.int .i64 x.lo,.int .i64 x.hi] 105) (.cells #[.int .i64 y.lo,.int .i64 y.hi] 105));obtain ⟨p,Hp⟩:∃ p,Hid (byLo x y=p):=⟨_,rfl⟩
 have HC:Hid (∀ W,Calls Tryz.prog 115 #[.int .i64 x.lo,.int .i64 y.lo] W fun e w'=>e = .returned (.int .i64 p)/\w'=W):=fun W=>by rw [<- Hp.out];exact cmp_any _ _ W
 rw [Hp.out];go_enter Tryz.func133,Tryz.ntmps133;go_wp2_with (go_at_call 115;refine (HC.out _).mono ?_;rintro e w' ⟨rfl,rfl⟩);go_ret;exact ⟨rfl,HG.out⟩
theorem cmpLays (blk size:Nat) (w:World):CmpLays Tryz.prog 133 #[] encR 2 byLo blk 0 size w:=
 fun _ _ _ _ x y=>byLo_any x y _
theorem sortFunc_any (ad:Addr) (cap n:Nat) (d:Array Rn) (w:World) (M:MR w ad d) (hn:d.size=n) (hb:n <= 8796093022207) :
  Calls Tryz.prog 132 #[.slice (some ad) n cap,.func (.func 133) #[] #[]] w fun e w'=>e = .returned (.tuple #[])/\∃ d',d'.toList.Perm d.toList/\d'.toList.Pairwise (fun x y=>x.lo <= y.lo)/\d'.size=n/\MR w' ad d'/\Below ad.block w w':=by
 subst hn;have eg:∀ args w,(callFunc 133 args).run Tryz.prog w = .ok (.enter 133 args) w:=enters_of Tryz.func133 (by kernel_rfl) rfl;have h:=AnyQ.slices_SortFunc Tryz.sortR 2 Tryz.isAgg105 Tryz.sizeOf105 encR (fun _=>rfl) (fun x v hv=>RC_one x v hv) byLo byLo_swo 133 #[] ad.block 0 cap d w eg (cmpLays ad.block d.size w) M.hk M.lt (by omega);rw [<- M.ha] at h;refine Calls.mono h ?_;rintro e w' ⟨rfl,d',m,os,⟨hs,_,hp⟩,hsr,rfl⟩;refine ⟨rfl,d',?_,?_,hs,⟨holdsK_sortWorldK_c encR 2 w ad.block 0 d d' m os M.hk M.lt hs,?_,M.ha⟩,?_⟩
 ·have e1:d'.extract 0 d.size=d':=by rw [<- hs];simp
  have e2:d.extract 0 d.size=d:=by simp
  rwa [e1,e2] at hp
 ·rw [List.pairwise_iff_getElem];intro i j hi hj hij;have:=hsr i j (Nat.zero_le _) hij (by rw [<- hs];simpa using hj);rw [byLo_lt] at this;rw [getElem!_pos d' j (by simpa using hj),getElem!_pos d' i (by simpa using hi)] at this;simp only [Array.getElem_toList];simp at this;exact this
 ·have:=M.lt
  show ad.block < ((putRow id (Sort.ahead w m) ad.block 0 (flatK encR 2 d')).heap++os).size
  rw [Array.size_append,size_putRow]
  show ad.block < w.heap.size+os.size
  omega
 ·have h1:Below ad.block w (putRow id (Sort.ahead w m) ad.block 0 (flatK encR 2 d')):=Lib.below_putRow (Below.refl _ _) (Nat.le_refl _);refine h1.trans ?_
  have hsz:ad.block <= (putRow id (Sort.ahead w m) ad.block 0 (flatK encR 2 d')).heap.size:=by rw [size_putRow];exact Nat.le_of_lt M.lt
  show Below ad.block _ (grow (putRow id (Sort.ahead w m) ad.block 0 (flatK encR 2 d')) os)
  generalize putRow id (Sort.ahead w m) ad.block 0 (flatK encR 2 d')=V at hsz;exact ⟨rfl,rfl,rfl,by show _ <= (V.heap++os).size;rw [Array.size_append];omega,fun k hk=>by show (V.heap++os)[k]? = _;rw [Array.getElem?_append_left (by omega)]⟩
theorem sort0 (ao:Option Addr) (cap:Nat) (w:World):Calls Tryz.prog 132 #[.slice ao 0 cap,.func (.func 133) #[] #[]] w fun e w'=>e = .returned (.tuple #[])/\w'=w:=AnyF.slices_SortFunc_none Tryz.sortR ao cap _ w
end
section
open Go.RowKit
attribute [local go_sem ↓] ldR_eq stR_eq
attribute [local go_sem] zero_RC cells_RV RC_size fold_RC
theorem resR {fn:Func} {p:Tmp} {w:World} {g:Nat} {T:TypeId} {r:Rn} (h:fn.results=#[.cell p 105]) {tmps:Array Value} (hp:tmps.getD p undef = .pointer (some ⟨g,0,none⟩)) (A:Box w g T r) :
  (results fn tmps).run Tryz.prog w = .ok (RV r) w:=by
 have hl:=run_lvR A.at
 simp only [results,h];rw [Array.getD_eq_getD_getElem?] at hp;simp [hp,asAddr,hl]
theorem clip_any (r:Rn) (w:World):Calls Tryz.prog 131 #[RV r] w fun e w'=>e = .returned (RV (clip r))/\Below w.heap.size w w':=by
 have B1:=below_new w (.cells (RC r) 105);have HB:Hid (Below w.heap.size w ((w.alloc (.cells (RC r) 105)).alloc (.cells (RC rn0) 105))):=B1.trans ((below_new _ _).mono B1.size);have X1:=(box_new w 105 r).below (below_new _ (.cells (RC rn0) 105));have X2:=box_new (w.alloc (.cells (RC r) 105)) 105 rn0;rw [World.size_alloc] at X2;have c0:=X1.at.c0;have c1:((w.alloc (.cells (RC r) 105)).alloc (.cells (RC rn0) 105)).cell? ⟨w.heap.size,1,none⟩=some (.int .i64 r.hi):=X1.at.c1;have HX:=hide (X2.setRow (r':=clip r));have hst:(stR (.pointer (some ⟨w.heap.size+1,0,none⟩)) (.agg (((RC rn0).setIfInBounds 0 (.int .i64 (max r.lo 1))).setIfInBounds 1 (.int .i64 (min r.hi 1000000000))))).run Tryz.prog ((w.alloc (.cells (RC r) 105)).alloc (.cells (RC rn0) 105)) = .ok () (((w.alloc (.cells (RC r) 105)).alloc (.cells (RC rn0) 105)).setRow (w.heap.size+1) (RC (clip r))):=run_stR (r':=clip r) X2
 have HB2:Hid (Below w.heap.size w (((w.alloc (.cells (RC r) 105)).alloc (.cells (RC rn0) 105)).setRow (w.heap.size+1) (RC (clip r)))):=below_setRow HB.out (by omega);clear X1 X2 B1;go_enter Tryz.func131,Tryz.ntmps131;go_wp2_with fail;exact bodyPost_ret (resR Tryz.results131 rfl HX.out) rfl ⟨rfl,HB2.out⟩
theorem OwnR.setHi {B0 B:Nat} {w w':World} {ad:Addr} {cap:Nat} {i:List Rn} {x:Rn} (O:OwnR B0 B w w' (some ad) cap (i++[x])) (h:Int):OwnR B0 B w (w'.setCell ((ad.add (i.length * 2)).add 1) (.int .i64 h)) (some ad) cap (i++[⟨x.lo,h⟩])/\w'.frozen? ((ad.add (i.length * 2)).add 1)=false:=by
 have hln:(i++[(⟨x.lo,h⟩:Rn)]).length=(i++[x]).length:=by simp
 rcases O.own.2 with ⟨h0,_⟩ | ⟨g,c,cur,hv,hbg,hgg,hnc,hcm,hcsz,htake⟩
 ·cases h0
 ·simp only [Value.slice.injEq,Option.some.injEq,true_and] at hv;obtain ⟨rfl,rfl⟩:=hv;rw [Addr.add_lit,Addr.add_lit,Nat.zero_add];have hB:=O.hB;refine ⟨⟨⟨by rw [rcs_length],Or.inr ⟨g,cap,cur.setIfInBounds (i.length * 2+1) (.int .i64 h),by rw [hln],hbg,heap_setCell_same w' g (i.length * 2+1) cur 105 _ hgg,by rw [hln];exact hnc,hcm,by simpa using hcsz,?_⟩⟩,O.below.setCell (by have:=O.hB0;show B0 <= g;omega) _,by simpa [World.setCell] using hB,O.hB0⟩,by simp [World.frozen?,hgg]⟩;rw [Array.toList_setIfInBounds,List.take_set,hln,htake,rcs_append,rcs_append,rcs_one,rcs_one,List.set_append_right _ _ (by rw [rcs_length];omega),rcs_length];rw [show i.length * 2+1 - i.length * 2=1 by omega];rfl
def GivesRN (w w':World) (e:Ending) (P:List Rn -> Prop):Prop:=∃ ao n c L,e = .returned (.slice ao n c)/\RSrc w' ao n c L/\Below w.heap.size w w'/\(∀ ad,ao=some ad -> w.heap.size <= ad.block)/\P L
theorem GivesRN.gives {w w':World} {e:Ending} {P:List Rn -> Prop} (h:GivesRN w w' e P):GivesR w w' e P:=by
 obtain ⟨ao,n,c,L,e1,S,b,_,p⟩:=h;exact ⟨ao,n,c,L,e1,S,b,p⟩
theorem merge_new (ao:Option Addr) (n cap:Nat) (P:List Rn) (w:World) (hS:RSrc w ao n cap P) (hs:P.Pairwise (fun x y=>x.lo <= y.lo)) (hc:∀ x,x∈P -> 1 <= x.lo/\x.lo <= x.hi/\x.hi <= 1000000000) :
  Calls Tryz.prog 134 #[.slice ao n cap] w fun e w'=>GivesRN w w' e (NormOf P):=by
 have HS:=hide hS;have hn:=hS.big;have HL:Hid (P.length=n):=hS.len;have HP:=hide hs;have HC:=hide hc;clear hS hs hc;go_enter Tryz.func134,Tryz.ntmps134;go_wp2_with fail;go_loopw [3,5,6,9] (fun v _ _ i wr=>∃ (k:Nat) (ap:Option Addr) (c:Nat) (acc:List Rn),k <= n/\acc.length <= k/\v = .slice ap acc.length c/\i = .int .i64 k/\Hid (MgInv (P.take k) acc/\OwnR w.heap.size w.heap.size w wr ap c acc)) (fun _ _ _ i _=>n - (intOf i).toNat)
 case atStart=>exact ⟨0,none,0,[],Nat.zero_le _,Nat.le_refl _,rfl,rfl,MgInv.start,OwnR.nil (Below.refl _ _) (Nat.le_refl _) (Nat.le_refl _)⟩
 case round =>
  obtain ⟨k,ap,c,acc,hk,hal,rfl,rfl,H⟩:=hrel
  rename World=>w4
  by_cases hlt:k < n
  ·obtain ⟨ad,rfl,A0⟩:=(HS.out.below H.out.2.below).at k hlt;have hld:=run_ldR A0;obtain ⟨r,Hr⟩:∃ r,Hid (P.getD k rn0=r):=⟨_,rfl⟩;rw [Hr.out] at hld
   have hkl:k < P.length:=by rw [HL.out];exact hlt
   have hgk:P.getD k rn0=P[k]'hkl:=by simp [List.getD,hkl]
   have HRM:Hid (r∈P):=by show _∈_;rw [<- Hr.out,hgk];exact List.getElem_mem _
   have HRC:=hide (HC.out r HRM.out)
   have HT:Hid (P.take (k+1)=P.take k++[r]):=by show _=_;rw [List.take_succ_eq_append_getElem hkl,<- hgk,Hr.out]
   have HRS:Hid (∀ p,p∈P.take k -> p.lo <= r.lo):=fun p hp=>by
    obtain ⟨j,hj,rfl⟩:=List.mem_iff_getElem.1 hp;rw [List.length_take] at hj;rw [<- Hr.out,hgk,List.getElem_take];exact List.pairwise_iff_getElem.1 HP.out j k (by omega) hkl (by omega)
   obtain ⟨w5,hst,X5,B5,Z5⟩:=made w4 r w4.heap.size rfl;have HX5:=hide X5;have HO5:=hide (H.out.2.later B5);clear A0 X5 B5 hgk hkl;obtain ⟨lo,hi⟩:=r;have r1:=HRC.out.1;have r2:=HRC.out.2.1;have r3:=HRC.out.2.2;simp only at r1 r2 r3;rcases List.eq_nil_or_concat acc with e | ⟨i,x,e⟩
   ·subst e
    have HN:Hid (MgInv (P.take (k+1)) ([]++[⟨lo,hi⟩])):=by rw [HT.out];exact H.out.1.first r1 r2 r3
    have hm1:IntKind.i64.wrap ((0:Int) - 1) = -1:=by rw [IntKind.wrap_i64];omega
    go_wp2_with fail;refine wp_region_quiet_below (by kernel_rfl) (by kernel_rfl) ?_
    repeat (with_reducible (refine wpQuiet_step ?_);intro K hK;go_simp;(try rw [if_neg (by unfold undef;simp)]);first | (with_reducible (refine hK _ ?_);clear hK K) | (apply Exists.intro;refine ⟨fun _=>?_,hK _ ?_⟩;(fail);clear hK K))
    with_reducible (refine wpQuiet_nil ?_)
    intro w6 hw';obtain ⟨⟨dq,osq⟩,hw''⟩:=hw'
    have b6:Below w5.heap.size w5 w6:=by rw [hw''];exact below_regrown w5 dq osq
    clear hw'' dq osq;have HO6:=hide (HO5.out.later b6)
    have l6:=run_ldR (HX5.out.below b6).at
    clear b6;go_wp2_with (at_builtin;refine HO6.out.append ⟨lo,hi⟩ _ rfl (by simp) rfl (.tmp 41) (.tmp 43) rfl 0 rfl rfl rfl ?_;intro g7 c7 w7 O7);go_roundw
    case rel=>exact ⟨k+1,some ⟨g7,0,none⟩,c7,[]++[⟨lo,hi⟩],by omega,by simp,by simp,by go_num,HN.out,O7⟩
    case measure=>simp [intOf];omega
   ·rw [List.concat_eq_append] at e;subst e;obtain ⟨j,hj⟩:∃ j,i.length=j:=⟨_,rfl⟩;obtain ⟨m,hlj⟩:∃ m,(i++[x]).length=m:=⟨_,rfl⟩
    have hjm:j+1=m:=by rw [<- hlj];simp [hj]
    have HJM:=hide hjm;rw [hlj] at hal ⊢
    have hm1:IntKind.i64.wrap ((m:Int) - 1)=(j:Int):=by rw [IntKind.wrap_i64];omega
    have hd0:decide ((0:Int) <= (j:Int))=true:=decide_eq_true (by omega)
    have hjj:j < m:=by omega
    clear hjm;have HF:=hide (form_last H.out.1.frm);obtain ⟨S5,F5⟩:=HO5.out.src (by rw [hlj];omega);rw [hlj] at S5;obtain ⟨ap',rfl,A5⟩:=S5.at j hjj;obtain ⟨g,rfl⟩:∃ g,ap'=⟨g,0,none⟩:=⟨ap'.block,HO5.out.mr.1.ha⟩
    have hgx:(i++[x]).getD j rn0=x:=by simp [List.getD,<- hj]
    rw [hgx] at A5;have HA5:=hide A5;clear S5 F5 A5 hgx;obtain ⟨xl,xh⟩:=x;have f2:=HF.out.2.1;have f3:=HF.out.2.2;simp only at f2 f3
    have hw1:IntKind.i64.wrap (xh+1)=xh+1:=by rw [IntKind.wrap_i64];have:=HF.out.1;simp only at this;omega
    have k0:∀ d os,(Sort.grow (redrawn w5 d) os).cell? ⟨w4.heap.size,0,none⟩=some (.int .i64 lo):=cell_regrown HX5.out.at.c0
    have A5c:w5.cell? ⟨g,j * 2+1,none⟩=some (.int .i64 xh):=by have:=HA5.out.c1;rw [Addr.add_lit,Addr.add_lit,Nat.zero_add] at this;exact this
    have k1:∀ d os,(Sort.grow (redrawn w5 d) os).cell? ⟨g,j * 2+1,none⟩=some (.int .i64 xh):=cell_regrown A5c;have HA5c:=hide A5c;clear A5c;by_cases hg:lo <= xh+1
    ·have hd1:decide (lo <= xh+1)=true:=decide_eq_true hg
     have HN:Hid (MgInv (P.take (k+1)) (i++[⟨xl,max xh hi⟩])):=by rw [HT.out];exact H.out.1.join HRS.out hg r2 r3
     go_wp2_with fail;refine wp_region_quiet_below (by kernel_rfl) (by kernel_rfl) ?_
     repeat (with_reducible (refine wpQuiet_step ?_);intro K hK;go_simp;(try rw [if_neg (by unfold undef;simp)]);first | (with_reducible (refine hK _ ?_);clear hK K) | (apply Exists.intro;refine ⟨fun _=>?_,hK _ ?_⟩;(fail);clear hK K))
     with_reducible (refine wpQuiet_nil ?_)
     intro w6 hw';obtain ⟨⟨dq,osq⟩,hw''⟩:=hw'
     have b6:Below w5.heap.size w5 w6:=by rw [hw''];exact below_regrown w5 dq osq
     clear hw'' dq osq;have HO6:=hide (HO5.out.later b6);have HA6:=hide (HA5.out.on b6);have HX6:=hide (HX5.out.below b6);clear b6 k0 k1
     have q1:w6.cell? ⟨g,j * 2+1,none⟩=some (.int .i64 xh):=by have:=HA6.out.c1;rw [Addr.add_lit,Addr.add_lit,Nat.zero_add] at this;exact this
     have q2:w6.cell? ⟨w4.heap.size,1,none⟩=some (.int .i64 hi):=HX6.out.at.c1;obtain ⟨O7,fz⟩:=HO6.out.setHi (max xh hi);rw [hj,Addr.add_lit,Addr.add_lit,Nat.zero_add] at O7 fz;have HO7:=hide O7;clear O7;go_wp2_with fail;go_region;go_wp2_with fail;go_roundw
     case rel=>exact ⟨k+1,some ⟨g,0,none⟩,c,i++[⟨xl,max xh hi⟩],by omega,by have:=HJM.out;simp [hj];omega,by have:=HJM.out;simp [hj,this],by go_num,HN.out,HO7.out.later (below_drew1 _)⟩
     case measure=>simp [intOf];omega
    ·have hd1:decide (lo <= xh+1)=false:=decide_eq_false hg
     have HN:Hid (MgInv (P.take (k+1)) (i++[⟨xl,xh⟩]++[⟨lo,hi⟩])):=by rw [HT.out];exact H.out.1.new hg r2 r3
     go_wp2_with fail;refine wp_region_quiet_below (by kernel_rfl) (by kernel_rfl) ?_
     repeat (with_reducible (refine wpQuiet_step ?_);intro K hK;go_simp;(try rw [if_neg (by unfold undef;simp)]);first | (with_reducible (refine hK _ ?_);clear hK K) | (apply Exists.intro;refine ⟨fun _=>?_,hK _ ?_⟩;(fail);clear hK K))
     with_reducible (refine wpQuiet_nil ?_)
     intro w6 hw';obtain ⟨⟨dq,osq⟩,hw''⟩:=hw'
     have b6:Below w5.heap.size w5 w6:=by rw [hw''];exact below_regrown w5 dq osq
     clear hw'' dq osq;have HO6:=hide (HO5.out.later b6)
     have l6:=run_ldR (HX5.out.below b6).at
     clear b6 k0 k1;go_wp2_with (at_builtin;refine HO6.out.append ⟨lo,hi⟩ _ rfl (by rw [hlj];omega) rfl (.tmp 41) (.tmp 43) rfl m hlj rfl rfl ?_;intro g7 c7 w7 O7);go_roundw
     case rel=>exact ⟨k+1,some ⟨g7,0,none⟩,c7,i++[⟨xl,xh⟩]++[⟨lo,hi⟩],by omega,by rw [List.length_append,hlj];simp;omega,by rw [List.length_append,hlj];simp,by go_num,HN.out,O7⟩
     case measure=>simp [intOf];omega
  ·obtain rfl:k=n:=by omega
   have HE:Hid (P.take k=P):=List.take_of_length_le (by rw [HL.out];exact Nat.le_refl _);obtain ⟨S4,F4⟩:=H.out.2.src (by omega);have HN:Hid (GivesRN w w4 (.returned (.slice ap acc.length c)) (NormOf P)):=⟨ap,acc.length,c,acc,rfl,S4,H.out.2.below,F4,H.out.1.frm,fun n=>by rw [H.out.1.mm n,HE.out]⟩;clear S4 F4;go_wp2_with fail;go_ret;exact HN.out
end
section
open Go.RowKit
attribute [local go_sem ↓] ldR_eq stR_eq
attribute [local go_sem] zero_RC cells_RV RC_size fold_RC
theorem norm_new (ao:Option Addr) (n cap:Nat) (L:List Rn) (w:World) (hS:RSrc w ao n cap L) :
  Calls Tryz.prog 103 #[.slice ao n cap] w fun e w'=>GivesRN w w' e (NormOf L):=by
 have HS:=hide hS;have hn:=hS.big;have HL:Hid (L.length=n):=hS.len;clear hS;go_enter Tryz.func103,Tryz.ntmps103;go_wp2_with fail;go_loopw [3,5,6,9] (fun v _ _ i wr=>∃ (k:Nat) (ap:Option Addr) (c:Nat) (acc:List Rn),k <= n/\acc.length <= k/\v = .slice ap acc.length c/\i = .int .i64 k/\Hid (acc=clips (L.take k)/\OwnR w.heap.size w.heap.size w wr ap c acc)) (fun _ _ _ i _=>n - (intOf i).toNat)
 case atStart=>exact ⟨0,none,0,[],Nat.zero_le _,Nat.le_refl _,rfl,rfl,rfl,OwnR.nil (Below.refl _ _) (Nat.le_refl _) (Nat.le_refl _)⟩
 case round =>
  obtain ⟨k,ap,c,acc,hk,hal,rfl,rfl,H⟩:=hrel
  rename World=>w4
  by_cases hlt:k < n
  ·obtain ⟨ad,rfl,A0⟩:=(HS.out.below H.out.2.below).at k hlt;have hld:=run_ldR A0;obtain ⟨r,Hr⟩:∃ r,Hid (L.getD k rn0=r):=⟨_,rfl⟩;rw [Hr.out] at hld
   have hkl:k < L.length:=by rw [HL.out];exact hlt
   have HT:Hid (clips (L.take (k+1))=acc++clips [r]):=by
    show _=_
    rw [List.take_succ_eq_append_getElem hkl,show L[k]=r by rw [<- Hr.out];simp [List.getD,hkl],H.out.1];simp [clips]
   obtain ⟨w5,hst,X5,B5,Z5⟩:=made w4 r w4.heap.size rfl
   have lx:=run_ldR X5.at
   have HO5:=hide (H.out.2.later B5);clear A0 X5 B5 hkl Z5;go_wp2_with fail;refine (clip_any r _).mono ?_;rintro e w6 ⟨rfl,b6⟩;have HO6:=hide (HO5.out.later b6);clear b6 lx hst hld;obtain ⟨q,Hq⟩:∃ q,Hid (clip r=q):=⟨_,rfl⟩;rw [Hq.out];obtain ⟨w7,hst,X7,B7,Z7⟩:=made w6 q w6.heap.size rfl;have HO7:=hide (HO6.out.later B7)
   have lq:=run_ldR X7.at
   have c0:=X7.at.c0;have c1:w7.cell? ⟨w6.heap.size,1,none⟩=some (.int .i64 q.hi):=X7.at.c1;clear X7 B7 Z7;by_cases hc:q.lo <= q.hi
   ·have HN:Hid (clips (L.take (k+1))=acc++[q]):=by show _=_;rw [HT.out];simp [clips,Hq.out,hc]
    go_wp2_with (at_builtin;refine HO7.out.append q _ rfl (by omega) rfl (.tmp 20) (.tmp 22) rfl acc.length rfl rfl rfl ?_;intro g8 c8 w8 O8);go_roundw
    case rel=>exact ⟨k+1,some ⟨g8,0,none⟩,c8,acc++[q],by omega,by simp;omega,by simp,by go_num,HN.out.symm,O8⟩
    case measure=>simp [intOf];omega
   ·have HN:Hid (clips (L.take (k+1))=acc):=by show _=_;rw [HT.out];simp [clips,Hq.out,hc]
    go_wp2_with fail;go_roundw
    case rel=>exact ⟨k+1,ap,c,acc,by omega,by omega,rfl,by go_num,HN.out.symm,HO7.out⟩
    case measure=>simp [intOf];omega
  ·obtain rfl:k=n:=by omega
   have HE:Hid (acc=clips L):=by show _=_;rw [H.out.1,List.take_of_length_le (by rw [HL.out];exact Nat.le_refl _)]
   have HB4:=hide H.out.2.below
   cases ap with
   | none =>
    obtain ⟨S4,_⟩:=H.out.2.src (by omega);obtain ⟨e0,rfl⟩:=S4.nil rfl;rw [e0];have hacc:acc=[]:=List.eq_nil_of_length_eq_zero e0
    have HN:Hid (∀ m,mem [] m↔mem L m):=fun m=>by rw [<- clips_mem L m,<- HE.out,hacc]
    clear S4 e0 hacc;go_wp2_with fail;refine (sort0 none 0 _).mono ?_;rintro e w5 ⟨rfl,rfl⟩;go_wp2_with fail;refine (merge_new none 0 0 [] _ (RSrc.empty _) List.Pairwise.nil (fun x hx=>by cases hx)).mono ?_;rintro e w6 ⟨a6,n6,c6,R6,rfl,S6,b6,f6,p6⟩;have HF:Hid (GivesRN w w6 (.returned (.slice a6 n6 c6)) (NormOf L)):=⟨a6,n6,c6,R6,rfl,S6,HB4.out.trans (b6.mono HB4.out.size),(fun ad h=>Nat.le_trans HB4.out.size (f6 ad h)),p6.1,fun m=>(p6.2 m).trans (HN.out m)⟩;clear S6 b6 f6 p6;go_wp2_with fail;go_ret;exact HF.out
   | some ap =>
    obtain ⟨M4,hbb,hc1,hc2⟩:=H.out.2.mr;have HM4:=hide M4;have HBB:=hide hbb;have HC1:=hide hc1;have HC2:=hide hc2;clear M4 hbb hc1 hc2;obtain ⟨m,hm⟩:∃ m,acc.length=m:=⟨_,rfl⟩;have HM:=hide hm;rw [hm] at hal ⊢;clear hm;go_wp2_with fail;refine (sortFunc_any ap c m acc.toArray _ HM4.out (by rw [List.size_toArray];exact HM.out) (by omega)).mono ?_;rintro e w5 ⟨rfl,d5,hp,hs,hz,M5,b5⟩;have HP:=hide hp;have HSR:=hide hs;have HS5:=hide (M5.rsrc m c hz (by rw [<- HM.out];exact HC1.out) HC2.out (by omega));have HB5:Hid (Below w.heap.size w w5):=HB4.out.trans (b5.mono HBB.out);clear hp hs hz M5 b5;go_wp2_with fail;refine (merge_new (some ap) m c d5.toList _ HS5.out HSR.out (fun x hx=>clips_in L x (by rw [<- HE.out];have:=HP.out.mem_iff.1 hx;simpa using this))).mono ?_;rintro e w6 ⟨a6,n6,c6,R6,rfl,S6,b6,f6,p6⟩
    have HF:Hid (GivesRN w w6 (.returned (.slice a6 n6 c6)) (NormOf L)):=⟨a6,n6,c6,R6,rfl,S6,HB5.out.trans (b6.mono HB5.out.size),(fun ad h=>Nat.le_trans HB5.out.size (f6 ad h)),p6.1,fun m=>by
     rw [p6.2 m,<- clips_mem L m,<- HE.out]
     exact mem_congr (fun x=>by have:=HP.out.mem_iff (a:=x);simpa using this) m⟩
    clear S6 b6 f6 p6;go_wp2_with fail;go_ret;exact HF.out
theorem norm_any (ao:Option Addr) (n cap:Nat) (L:List Rn) (w:World) (hS:RSrc w ao n cap L) :
  Calls Tryz.prog 103 #[.slice ao n cap] w fun e w'=>GivesR w w' e (NormOf L):=(norm_new ao n cap L w hS).mono fun _ _ h=>h.gives
end
section
open Go.RowKit
attribute [local go_sem ↓] ldR_eq stR_eq
attribute [local go_sem] zero_RC cells_RV RC_size fold_RC
theorem RSrc.tail' {w:World} {b o m c:Nat} {r:Rn} {L:List Rn} (h:RSrc w (some ⟨b,o,none⟩) m c (r :: L)):RSrc w (if c=1 then some ⟨b,o,none⟩ else some ⟨b,o+2,none⟩) (m - 1) (c - 1) L:=by
 by_cases e:c=1
 ·rw [if_pos e];have h1:=h.len;have h2:=h.cap;simp at h1;exact ⟨by omega,fun e=>(by cases e),fun ad ha t ht=>by omega,by omega,by omega,by omega⟩
 ·rw [if_neg e];exact h.tail
theorem length_any (r:Rn) (w:World) (h1:1 <= r.lo) (h2:r.hi <= 1000000000) (h3:r.lo <= r.hi):Calls Tryz.prog 174 #[RV r] w fun e w'=>e = .returned (.int .i64 (r.hi - r.lo+1))/\Below w.heap.size w w':=by
 have HB:=hide (below_new w (.cells (RC r) 105));have X1:=box_new w 105 r;have c0:=X1.at.c0;have c1:(w.alloc (.cells (RC r) 105)).cell? ⟨w.heap.size,1,none⟩=some (.int .i64 r.hi):=X1.at.c1
 have e1:IntKind.i64.wrap (r.hi - r.lo)=r.hi - r.lo:=by rw [IntKind.wrap_i64];omega
 have e2:IntKind.i64.wrap (r.hi - r.lo+1)=r.hi - r.lo+1:=by rw [IntKind.wrap_i64];omega
 clear X1;go_enter Tryz.func174,Tryz.ntmps174;go_wp2_with fail;go_ret;exact ⟨by simp,HB.out⟩
theorem form_at:∀ {a:List Rn} {l:Int} (k:Nat),1 <= l -> form l a -> k < a.length -> 1 <= (a.getD k rn0).lo/\(a.getD k rn0).lo <= (a.getD k rn0).hi/\(a.getD k rn0).hi <= 1000000000
 | r :: a,l,0,hl,h,_=>by have:=h.1;have:=h.2.1;have:=h.2.2.1;simp [List.getD];omega
 | r :: a,l,k+1,hl,h,hk=>by
  have:=form_at k (l:=r.hi+2) (by have:=h.1;have:=h.2.1;omega) h.2.2.2 (by simpa using hk);simpa [List.getD] using this
def SizeOf (A:List Rn) (k:Int):Prop:=∃ R,NormOf A R/\k=sz R
theorem size_any (ao:Option Addr) (n cap:Nat) (A:List Rn) (w:World) (hS:RSrc w ao n cap A) :
  Calls Tryz.prog 141 #[.slice ao n cap] w fun e w'=>∃ k,e = .returned (.int .i64 k)/\SizeOf A k/\Below w.heap.size w w':=by
 have HS:=hide hS;clear hS;go_enter Tryz.func141,Tryz.ntmps141;go_wp2_with fail;refine (norm_any ao n cap A _ HS.out).mono ?_;rintro e w1 ⟨a1,n1,c1,X,rfl,S1,b1,p1⟩;have HS1:=hide S1;have HP1:=hide p1;have HB1:=hide b1;have HL:Hid (X.length=n1):=S1.len;have hn:=S1.big;have hz:=sz_bd p1.1;have HZ:=hide hz.2.1
 have hz0:sz X <= 1000000000:=by
  rcases hz.2.1 with e | e
  ·rw [e];simp [sz]
  ·omega
 clear S1 b1 p1 hz;go_wp2_with fail;go_loopw [3,5,9] (fun v _ i wr=>∃ (k:Nat),k <= n1/\v = .int .i64 (sz (X.take k))/\i = .int .i64 k/\Hid (Below w1.heap.size w1 wr)) (fun _ _ i _=>n1 - (intOf i).toNat)
 case atStart=>exact ⟨0,Nat.zero_le _,rfl,rfl,Below.refl _ _⟩
 case round =>
  obtain ⟨k,hk,rfl,rfl,H⟩:=hrel
  rename World=>w4
  have hs1:=sz_take X 1 k HP1.out.1;by_cases hlt:k < n1
  ·obtain ⟨ad,rfl,A0⟩:=(HS1.out.below H.out).at k hlt;have hld:=run_ldR A0;have hfa:=form_at k (Int.le_refl _) HP1.out.1 (by rw [HL.out];exact hlt);obtain ⟨r,Hr⟩:∃ r,Hid (X.getD k rn0=r):=⟨_,rfl⟩;rw [Hr.out] at hld hfa
   have hkl:k < X.length:=by rw [HL.out];exact hlt
   have hs2:=sz_take X 1 (k+1) HP1.out.1
   have HT:Hid (sz (X.take (k+1))=sz (X.take k)+(r.hi - r.lo+1)):=by
    show _=_
    rw [List.take_succ_eq_append_getElem hkl,sz_append,show X[k]=r by rw [<- Hr.out];simp [List.getD,hkl]];simp [sz]
   have hT:=HT.out;obtain ⟨s,hs⟩:∃ s,sz (X.take k)=s:=⟨_,rfl⟩;rw [hs] at hs1 hT ⊢;have HSS:=hide hs
   have hw1:IntKind.i64.wrap (s+(r.hi - r.lo+1))=s+(r.hi - r.lo+1):=by rw [IntKind.wrap_i64];omega
   obtain ⟨w5,hst,X5,B5,Z5⟩:=made w4 r w4.heap.size rfl
   have lx:=run_ldR X5.at
   have HB5:=wTr H B5;have HLN:=hide (length_any r w5 hfa.1 hfa.2.2 hfa.2.1);clear A0 X5 B5 Z5 hkl hT hs hs2 hfa;go_wp2_with fail;refine HLN.out.mono ?_;rintro e w6 ⟨rfl,b6⟩;have HB6:=wTr HB5 b6;clear b6;go_wp2_with fail;go_roundw
   case rel=>exact ⟨k+1,by omega,by rw [HT.out,HSS.out],by go_num,HB6⟩
   case measure=>simp [intOf];omega
  ·obtain rfl:k=n1:=by omega
   have HF:Hid (SizeOf A (sz (X.take k))):=⟨X,HP1.out,by rw [List.take_of_length_le (by rw [HL.out];exact Nat.le_refl _)]⟩;have HBF:=wTr HB1 H.out;go_wp2_with fail;go_ret;exact ⟨_,rfl,HF.out,HBF.out⟩
end
section

def pick:List Rn -> Int -> Int
 | [],_=>0
 | r :: a,k=>if k <= r.hi - r.lo+1 then r.lo+k - 1 else pick a (k - (r.hi - r.lo+1))
def pk (a:List Rn) (k:Int):Int:=if k < 1 then 0 else pick a k
def cutTo:List Rn -> Int -> List Rn
 | [],_=>[]
 | r :: a,n=>if n < r.lo then [] else if n <= r.hi then [⟨r.lo,n⟩] else r :: cutTo a n
def rk (a:List Rn) (n:Int):Int:=sz (cutTo a n)
def fst:List Rn -> Int -> Int
 | [],_=>0
 | r :: a,f=>if f <= r.hi then max r.lo f else fst a f
theorem sz_cons (r:Rn) (a:List Rn):sz (r :: a)=(r.hi - r.lo+1)+sz a:=rfl
end
section

theorem sz_top {a:List Rn} (h:form 1 a):0 <= sz a/\sz a <= 1000000000:=by
 have hz:=sz_bd h;refine ⟨hz.1,?_⟩;rcases hz.2.1 with e | e
 ·rw [e];simp [sz]
 ·omega
end
section
open Go.RowKit
attribute [local go_sem ↓] ldR_eq stR_eq
attribute [local go_sem] zero_RC cells_RV RC_size fold_RC
def LeadOf (A:List Rn) (k:Int) (L:List Rn):Prop:=form 1 L/\0 <= k/\k <= 1000000000/\(∀ X,NormOf A X -> k+sz L=sz X)/\(∀ r L',L=r :: L' -> k+2 <= r.lo)/\∃ X,NormOf A X/\((k=0/\X=L/\∀ r X',X=r :: X' -> r.lo≠1)∨X=⟨1,k⟩ :: L)
def GivesL (w w':World) (e:Ending) (A:List Rn):Prop:=∃ k a1 n1 c1 L,e = .returned (.tuple #[.int .i64 k,.slice a1 n1 c1])/\RSrc w' a1 n1 c1 L/\LeadOf A k L/\Below w.heap.size w w'/\∀ ad,a1=some ad -> w.heap.size <= ad.block
theorem lead_any (ao:Option Addr) (n cap:Nat) (A:List Rn) (w:World) (hS:RSrc w ao n cap A) :
  Calls Tryz.prog 67 #[.slice ao n cap] w fun e w'=>GivesL w w' e A:=by
 have HS:=hide hS;clear hS;go_enter Tryz.func67,Tryz.ntmps67;go_wp2_with fail;refine (norm_new ao n cap A _ HS.out).mono ?_;rintro e w1 ⟨a1,n1,c1,X,rfl,S1,b1,f1',p1⟩;have HFR:=hide f1';have HS1:=hide S1;have HP1:=hide p1;have HB1:=hide b1;have hn:=S1.big;have hc:=S1.cap;have hrm:=S1.room;unfold maxLen at hrm;have HL:Hid (X.length=n1):=S1.len;clear S1 b1 p1 f1'
 cases X with
 | nil =>
  obtain rfl:n1=0:=HL.out.symm;have HF:Hid (LeadOf A 0 []):=⟨trivial,by omega,by omega,fun Y hY=>by rw [hY.unique HP1.out];simp,(fun r L' e=>by cases e),⟨[],HP1.out,Or.inl ⟨rfl,rfl,(fun r X' e=>by cases e)⟩⟩⟩;go_wp2_with fail;go_ret2;exact (⟨_,_,_,_,_,rfl,HS1.out,HF.out,HB1.out,HFR.out⟩:GivesL _ _ _ _)
 | cons r X =>
  have hn1:0 < n1:=by rw [<- HL.out];simp
  obtain ⟨ad,rfl,_⟩:=HS1.out.at 0 (by omega);obtain ⟨b,o,rfl⟩:=HS1.out.spot (by omega);obtain ⟨q0,q1⟩:=HS1.out.nums 0 (by omega);simp [List.getD] at q0 q1;have f1:=HP1.out.1.1;have f2:=HP1.out.1.2.1;have f3:=HP1.out.1.2.2.1
  have d0:((n1:Int) == 0)=false:=by simp;omega
  have HT:=hide HS1.out.tail';by_cases h1:r.lo=1
  ·have d1:(r.lo != 1)=false:=by simpa using h1
   have HF:Hid (LeadOf A r.hi X):=⟨form_mono (by omega) HP1.out.1.2.2.2,by omega,by omega,fun Y hY=>by rw [hY.unique HP1.out,sz_cons];omega,fun s L' e=>by
    have:=HP1.out.1.2.2.2;rw [e] at this
    exact this.1,⟨_,HP1.out,Or.inr (by obtain ⟨r1,r2⟩:=r;simp only at h1;subst h1;rfl)⟩⟩
   clear h1;by_cases hcc:c1=1
   ·subst hcc
    obtain rfl:n1=1:=by omega
    have HT1:RSrc w1 (some ⟨b,o,none⟩) 0 0 X:=HT.out;replace HT:=hide HT1;clear HT1;have k1:=cell_regrown q1;go_wp2_with fail;refine wp_region_quiet_below (by kernel_rfl) (by kernel_rfl) ?_
    repeat (with_reducible (refine wpQuiet_step ?_);intro K hK;go_simp;(try rw [if_neg (by unfold undef;simp)]);first | (with_reducible (refine hK _ ?_);clear hK K) | (apply Exists.intro;refine ⟨fun _=>?_,hK _ ?_⟩;(fail);clear hK K))
    with_reducible (refine wpQuiet_nil ?_)
    intro w5 hw';obtain ⟨⟨dq,osq⟩,hw''⟩:=hw'
    have b5:Below w1.heap.size w1 w5:=by rw [hw''];exact below_regrown w1 dq osq
    clear hw'' dq osq;have HT5:=hide (HT.out.below b5);have HB5:=wTr HB1 b5;have HN:Hid (GivesL w w5 (.returned (.tuple #[.int .i64 r.hi,.slice (some ⟨b,o,none⟩) 0 0])) A):=⟨_,_,_,_,X,rfl,HT5.out,HF.out,HB5.out,(fun ad h=>by obtain rfl:=Option.some.inj h;exact HFR.out ⟨b,o,none⟩ rfl)⟩;clear b5 k1;go_wp2_with fail;go_ret2;exact HN.out
   ·have HT1:=HT.out;rw [if_neg hcc] at HT1;replace HT:=hide HT1;clear HT1;have k1:=cell_regrown q1
    have hni:(1:Int) <= (n1:Int):=by omega
    go_wp2_with fail;refine wp_region_quiet_below (by kernel_rfl) (by kernel_rfl) ?_
    repeat (with_reducible (refine wpQuiet_step ?_);intro K hK;go_simp;(try rw [if_neg (by unfold undef;simp)]);first | (with_reducible (refine hK _ ?_);clear hK K) | (apply Exists.intro;refine ⟨fun _=>?_,hK _ ?_⟩;(fail);clear hK K))
    with_reducible (refine wpQuiet_nil ?_)
    intro w5 hw';obtain ⟨⟨dq,osq⟩,hw''⟩:=hw'
    have b5:Below w1.heap.size w1 w5:=by rw [hw''];exact below_regrown w1 dq osq
    clear hw'' dq osq;have HT5:=hide (HT.out.below b5);have HB5:=wTr HB1 b5;have HN:Hid (GivesL w w5 (.returned (.tuple #[.int .i64 r.hi,.slice (some ⟨b,o+2,none⟩) (n1 - 1) (c1 - 1)])) A):=⟨_,_,_,_,X,rfl,HT5.out,HF.out,HB5.out,(fun ad h=>by obtain rfl:=Option.some.inj h;exact HFR.out ⟨b,o,none⟩ rfl)⟩;clear b5 k1;go_wp2_with fail;go_ret2;exact HN.out
  ·have d1:(r.lo != 1)=true:=by simpa using h1
   have HF:Hid (LeadOf A 0 (r :: X)):=⟨HP1.out.1,by omega,by omega,fun Y hY=>by rw [hY.unique HP1.out];simp,fun s L' e=>by
    injection e with e1 e2;subst e1
    omega,⟨_,HP1.out,Or.inl ⟨rfl,rfl,fun s X' e=>by injection e with e1 e2;subst e1;exact h1⟩⟩⟩
   clear h1;go_wp2_with fail;go_ret2;exact (⟨_,_,_,_,_,rfl,HS1.out,HF.out,HB1.out,HFR.out⟩:GivesL _ _ _ _)
end
section
open Go.RowKit

def leadOf:List Rn -> Int
 | []=>0
 | r :: _=>if r.lo=1 then r.hi else 0
def restOf:List Rn -> List Rn
 | []=>[]
 | r :: t=>if r.lo=1 then t else r :: t
def tag (r:Nat) (L:List Rn):List Sn:=L.map (fun x=>⟨(r:Int),x.lo,x.hi⟩)
def cloudN (N:Nat -> List Rn):Nat -> List Sn
 | 0=>[]
 | k+1=>cloudN N k++tag k (restOf (N k))
def canonP (N:Nat -> List Rn):Pst:=⟨V.short (fun r=>leadOf (N r)),cloudN N 16⟩
theorem lead_rest {A X:List Rn} {k:Int} {L:List Rn} (h:LeadOf A k L) (hX:NormOf A X):k=leadOf X/\L=restOf X:=by
 obtain ⟨_,_,_,_,_,Y,hY,h | h⟩:=h
 ·obtain rfl:=hX.unique hY;obtain ⟨rfl,rfl,hr⟩:=h
  cases X with
  | nil=>exact ⟨rfl,rfl⟩
  | cons r t =>
   have:=hr r t rfl;simp [leadOf,restOf,this]
 ·obtain rfl:=hX.unique hY;subst h;simp [leadOf,restOf]
theorem LeadOf.norm {A:List Rn} {k:Int} {L:List Rn} (h:LeadOf A k L):∃ X,NormOf A X/\k=leadOf X/\L=restOf X:=by
 obtain ⟨X,hX,_⟩:=h.2.2.2.2.2;exact ⟨X,hX,lead_rest h hX⟩
theorem leadOf_bd {X:List Rn} (h:form 1 X):0 <= leadOf X/\leadOf X <= 1000000000:=by
 cases X with
 | nil=>simp [leadOf]
 | cons r t =>
  have h1:=h.1;have h2:=h.2.1;have h3:=h.2.2.1;simp only [leadOf]
  split <;> omega
theorem restOf_len (X:List Rn):(restOf X).length <= X.length:=by
 cases X with
 | nil=>simp [restOf]
 | cons r t=>simp only [restOf];split <;> simp
theorem tag_length (r:Nat) (L:List Rn):(tag r L).length=L.length:=by simp [tag]
theorem cloudN_congr {N N':Nat -> List Rn}:∀ k,(∀ r,r < k -> N r=N' r) -> cloudN N k=cloudN N' k
 | 0,_=>rfl
 | k+1,h=>by rw [cloudN,cloudN,cloudN_congr k (fun r hr=>h r (by omega)),h k (by omega)]
theorem cloudN_len {N:Nat -> List Rn}:∀ k,(∀ r,r < k -> form 1 (N r)) -> (cloudN N k).length <= k * 500000001
 | 0,_=>by simp [cloudN]
 | k+1,h=>by
  have h1:=cloudN_len k (fun r hr=>h r (by omega));have h2:=restOf_len (N k);have h3:=form_small (Int.le_refl _) (h k (by omega));rw [cloudN,List.length_append,tag_length];omega
theorem topN_congr {f g:Nat -> Int}:∀ k,(∀ r,r < k -> f r=g r) -> V.topN f k=V.topN g k
 | 0,_=>rfl
 | k+1,h=>by rw [V.topN,V.topN,topN_congr k (fun r hr=>h r (by omega)),h k (by omega)]
theorem short_congr {f g:Nat -> Int} (h:∀ r,r < 16 -> f r=g r):V.short f=V.short g:=by
 have ht:V.top f=V.top g:=topN_congr 16 h;have h16:=V.top_le g;unfold V.short;rw [ht];apply List.map_congr_left;intro r hr;exact h r (by have:=List.mem_range.1 hr;omega)
theorem canonP_congr {N N':Nat -> List Rn} (h:∀ r,r < 16 -> N r=N' r):canonP N=canonP N':=by
 unfold canonP;rw [short_congr (fun r hr=>by rw [h r hr]),cloudN_congr 16 h]
def CanonOf (G:Nat -> List Rn) (P:Pst):Prop:=∃ N,(∀ r,r < 16 -> NormOf (G r) (N r))/\P=canonP N
theorem CanonOf.unique {G G':Nat -> List Rn} {P P':Pst} (h:CanonOf G P) (h':CanonOf G' P') (e:∀ r,r < 16 -> ∀ n,mem (G r) n↔mem (G' r) n):P=P':=by
 obtain ⟨N,hN,rfl⟩:=h;obtain ⟨N',hN',rfl⟩:=h';exact canonP_congr fun r hr=>form_unique (Int.le_refl _) (hN r hr).1 (hN' r hr).1 (fun n=>((hN r hr).2 n).trans ((e r hr n).trans ((hN' r hr).2 n).symm))
theorem at_short {f:Nat -> Int} (hf:∀ r,r < 16 -> 0 <= f r/\f r <= 1000000000) (r:Nat) (hr:r < 16):V.at' (V.short f) r=f r:=by
 unfold V.at';rw [if_pos hr]
 have key:∀ k,V.topN f k <= r -> r < k -> f r=0:=by
  intro k
  induction k with
  | zero=>intro _ h;omega
  | succ k ih =>
   intro h1 h2;rw [V.topN] at h1;by_cases h0:f k=0
   ·rw [if_pos h0] at h1;by_cases e:r=k
    ·rw [e];exact h0
    ·exact ih h1 (by omega)
   ·rw [if_neg h0] at h1;omega
 have hb:=hf r hr;by_cases h:r < V.top f
 ·have:(V.short f).getD r 0=f r:=by simp [V.short,List.getD,h]
  rw [this];unfold V.clamp;rw [if_neg (by omega),if_neg (by omega)]
 ·have h0:f r=0:=key 16 (by unfold V.top at h;omega) hr
  have:(V.short f).getD r 0=0:=by
   rw [List.getD,List.getElem?_eq_none (by rw [V.short_length];omega)];rfl
  rw [this,h0];rfl
theorem cloudPart_append (L M:List Sn) (r:Nat):cloudPart (L++M) r=cloudPart L r++cloudPart M r:=by simp [cloudPart]
theorem cloudPart_tag (q r:Nat) (L:List Rn):cloudPart (tag q L) r=if q=r then L else []:=by
 induction L with
 | nil=>simp [cloudPart,tag]
 | cons x L ih =>
  have e:tag q (x :: L)=[(⟨(q:Int),x.lo,x.hi⟩:Sn)]++tag q L:=rfl;rw [e,cloudPart_append,ih];by_cases h:q=r
  ·subst h;simp [cloudPart]
  ·have:¬ (q:Int)=(r:Int):=by omega
   simp [cloudPart,h,this]
theorem cloudPart_N (N:Nat -> List Rn) (r:Nat):∀ k,cloudPart (cloudN N k) r=if r < k then restOf (N r) else []
 | 0=>by simp [cloudN,cloudPart]
 | k+1=>by
  rw [cloudN,cloudPart_append,cloudPart_N N r k,cloudPart_tag];by_cases h:k=r
  ·subst h;simp
  ·by_cases h':r < k
   ·simp [h,h',show r < k+1 by omega]
   ·simp [h,h',show ¬ r < k+1 by omega]
theorem lead_rest_mem {X:List Rn} (h:form 1 X) (n:Int):mem (vecPart (leadOf X)++restOf X) n↔mem X n:=by
 cases X with
 | nil=>simp [leadOf,restOf,vecPart]
 | cons r t =>
  have h1:=h.1;have h2:=h.2.1;have h3:=h.2.2.1;by_cases e:r.lo=1
  ·have hp:0 < r.hi:=by omega
   have hr:(⟨1,r.hi⟩:Rn)=r:=by cases r;simp_all
   simp [leadOf,restOf,e,vecPart,hp,hr]
  ·simp [leadOf,restOf,e,vecPart]
theorem canon_mem {G:Nat -> List Rn} {P:Pst} (h:CanonOf G P) (r:Nat) (hr:r < 16) (n:Int):mem (runsAt P r) n↔mem (G r) n:=by
 obtain ⟨N,hN,rfl⟩:=h;have hf:∀ r,r < 16 -> 0 <= leadOf (N r)/\leadOf (N r) <= 1000000000:=fun r hr=>leadOf_bd (hN r hr).1;unfold runsAt canonP;dsimp only;rw [at_short hf r hr,cloudPart_N,if_pos hr,lead_rest_mem (hN r hr).1];exact (hN r hr).2 n
theorem canon_len {G:Nat -> List Rn} {P:Pst} (h:CanonOf G P):P.cloud.length <= 8000000016/\P.vec.length <= 16:=by
 obtain ⟨N,hN,rfl⟩:=h;have:=cloudN_len (N:=N) 16 (fun r hr=>(hN r hr).1);refine ⟨by show (cloudN N 16).length <= _;omega,by show (V.short _).length <= _;rw [V.short_length];exact V.top_le _⟩
def PNew (n:Nat) (p:Pv):Prop:=(∀ ad,p.vo=some ad -> n <= ad.block)/\∀ ad,p.co=some ad -> n <= ad.block
theorem PNew.mono {n m:Nat} {p:Pv} (h:PNew n p) (hm:m <= n):PNew m p:=⟨fun ad e=>Nat.le_trans hm (h.1 ad e),fun ad e=>Nat.le_trans hm (h.2 ad e)⟩
def GivesP (w w':World) (e:Ending) (Q:Pst -> Prop):Prop:=∃ p:Pv,e = .returned (PV p)/\PSrc w' p/\PNew w.heap.size p/\Below w.heap.size w w'/\Q p.P
theorem psrc_off {w w':World} {p:Pv} (h:PSrc w p) (hv:∀ ad,p.vo=some ad -> w'.heap[ad.block]? = w.heap[ad.block]?) (hc:∀ ad,p.co=some ad -> w'.heap[ad.block]? = w.heap[ad.block]?):PSrc w' p:=⟨h.vec.off hv,h.cloud.off hc,h.big⟩
theorem past_end {w W:World} {g:Nat} {p:Pv} (hP:PBox W g pv0) (hS:PSrc W p) (hn:PNew (g+1) p) (hb:Below w.heap.size w W) (hg:w.heap.size <= g):(stP (.pointer (some ⟨g,0,none⟩)) (PV p)).run Tryz.prog W = .ok () (W.setRow g (PC p))/\PBox (W.setRow g (PC p)) g p/\PSrc (W.setRow g (PC p)) p/\PNew w.heap.size p/\Below w.heap.size w (W.setRow g (PC p)):=by
 refine ⟨run_stP hP,setRow_heap _ _ _ _ _ _ hP,psrc_off hS (fun ad h=>setRow_other _ _ _ _ (fun e=>?_)) (fun ad h=>setRow_other _ _ _ _ (fun e=>?_)),hn.mono (by omega),below_setRow hb hg⟩
 ·have:=hn.1 ad h;omega
 ·have:=hn.2 ad h;omega
theorem CanonOf.congr {G G':Nat -> List Rn} {P:Pst} (h:CanonOf G P) (e:∀ r,r < 16 -> G r=G' r):CanonOf G' P:=by
 obtain ⟨N,hN,rfl⟩:=h;exact ⟨N,fun r hr=>by rw [<- e r hr];exact hN r hr,rfl⟩
end
section
open Go.RowKit

theorem tn_lo:∀ (R:List Rn) (t:Nat),t < R.length -> (tn R).getD (2 * t) 0=(R.getD t rn0).lo/\(tn R).getD (2 * t+1) 0=(R.getD t rn0).hi+1
 | [],t,h=>by simp at h
 | r :: R,0,_=>⟨rfl,rfl⟩
 | r :: R,t+1,h=>by
  have ih:=tn_lo R t (by simpa using h)
  have e1:2 * (t+1)=2 * t+1+1:=by omega
  have e2:2 * (t+1)+1=2 * t+1+1+1:=by omega
  rw [e1];simp only [tn,List.getD_cons_succ];exact ih
theorem rn_take (R:List Rn) (t:Nat) (h:t < R.length):R.take (t+1)=R.take t++[R.getD t rn0]:=by
 rw [List.take_succ_eq_append_getElem h];simp [List.getD,h]
theorem form_gt:∀ {R:List Rn} {l:Int},form l R -> ∀ t,t < R.length -> l <= (R.getD t rn0).lo/\(R.getD t rn0).lo <= (R.getD t rn0).hi/\(R.getD t rn0).hi <= 1000000000
 | R,l,h,t,ht=>by
  have hm:R.getD t rn0∈R:=by
   have:R.getD t rn0=R[t]:=by simp [List.getD,ht]
   rw [this];exact List.getElem_mem ht
  exact form_bd h _ hm
theorem form_first {R:List Rn} (h:form 1 R) (t:Nat) (ht:t < R.length) (e:(R.getD t rn0).lo=1):t=0:=by
 cases R with
 | nil=>simp at ht
 | cons r R =>
  cases t with
  | zero=>rfl
  | succ t =>
   exfalso;have h1:=h.1;have h2:=h.2.1;have:=(form_gt h.2.2.2 t (by simpa using ht)).1;rw [List.getD_cons_succ] at e;omega
theorem lead_in {R:List Rn} (h:form 1 R) (t:Nat) (ht:t < R.length) (e:(R.getD t rn0).lo=1):leadOf (R.take t)=0/\leadOf (R.take (t+1))=(R.getD t rn0).hi/\restOf (R.take (t+1))=restOf (R.take t)/\1 <= (R.getD t rn0).hi:=by
 obtain rfl:=form_first h t ht e;rw [rn_take R 0 ht];have:=(form_gt h 0 ht).2.1;refine ⟨rfl,?_,?_,by omega⟩
 ·simp only [List.take_zero,List.nil_append,leadOf];rw [if_pos e]
 ·simp only [List.take_zero,List.nil_append,restOf];rw [if_pos e]
theorem rest_in {R:List Rn} (t:Nat) (ht:t < R.length) (e:¬ (R.getD t rn0).lo=1):leadOf (R.take (t+1))=leadOf (R.take t)/\restOf (R.take (t+1))=restOf (R.take t)++[R.getD t rn0]:=by
 rw [rn_take R t ht];generalize R.getD t rn0=x at e
 cases hr:R.take t with
 | nil=>simp [leadOf,restOf,e]
 | cons r q =>
  simp only [List.cons_append,leadOf,restOf,true_and]
  split <;> simp
theorem tag_snoc (r:Nat) (L:List Rn) (x:Rn):tag r (L++[x])=tag r L++[⟨(r:Int),x.lo,x.hi⟩]:=by simp [tag]
def vfn (N:Nat -> List Rn) (y t q:Nat):Int:=if q < y then leadOf (N q) else if q=y then leadOf ((N y).take t) else 0
def vtop (N:Nat -> List Rn) (y t:Nat):Nat:=if leadOf ((N y).take t)=0 then V.topN (fun q=>leadOf (N q)) y else y+1
def vcl (N:Nat -> List Rn) (y t:Nat):List Sn:=cloudN N y++tag y (restOf ((N y).take t))
theorem vtop_zero (N:Nat -> List Rn) (y:Nat):vtop N y 0=V.topN (fun q=>leadOf (N q)) y:=by simp [vtop,leadOf]
theorem vtop_end (N:Nat -> List Rn) (y:Nat):vtop N y (N y).length=V.topN (fun q=>leadOf (N q)) (y+1):=by
 rw [vtop,List.take_length,V.topN]
theorem vcl_zero (N:Nat -> List Rn) (y:Nat):vcl N y 0=cloudN N y:=by simp [vcl,restOf,tag]
theorem vcl_end (N:Nat -> List Rn) (y:Nat):vcl N y (N y).length=cloudN N (y+1):=by rw [vcl,List.take_length,cloudN]
theorem vfn_end (N:Nat -> List Rn) (y q:Nat):vfn N y (N y).length q=vfn N (y+1) 0 q:=by
 unfold vfn;rw [List.take_length];by_cases h1:q < y
 ·rw [if_pos h1,if_pos (by omega)]
 ·rw [if_neg h1];by_cases h2:q=y
  ·subst h2;rw [if_pos rfl,if_pos (by omega)]
  ·rw [if_neg h2,if_neg (by omega)];by_cases h3:q=y+1
   ·rw [if_pos h3];simp [leadOf]
   ·rw [if_neg h3]
theorem vfn_lead {N:Nat -> List Rn} {y t:Nat} (h:form 1 (N y)) (ht:t < (N y).length) (e:((N y).getD t rn0).lo=1) (q:Nat):vfn N y (t+1) q=if q=y then ((N y).getD t rn0).hi else vfn N y t q:=by
 unfold vfn;rw [(lead_in h t ht e).2.1];by_cases h1:q < y
 ·rw [if_pos h1,if_neg (by omega),if_pos h1]
 ·rw [if_neg h1];by_cases h2:q=y
  ·rw [if_pos h2,if_pos h2]
  ·rw [if_neg h2,if_neg h2,if_neg h1,if_neg h2]
theorem vfn_rest {N:Nat -> List Rn} {y t:Nat} (ht:t < (N y).length) (e:¬ ((N y).getD t rn0).lo=1) (q:Nat):vfn N y (t+1) q=vfn N y t q:=by
 unfold vfn;rw [(rest_in t ht e).1]
def V16 (f:Nat -> Int):Array Value:=((List.range 16).map (fun q=>Value.int .i64 (f q))).toArray
theorem V16_congr {f g:Nat -> Int} (h:∀ q,f q=g q):V16 f=V16 g:=by unfold V16;rw [funext h]
theorem V16_set (f:Nat -> Int) (y:Nat) (z:Int):(V16 f).setIfInBounds y (.int .i64 z)=V16 (fun q=>if q=y then z else f q):=by
 apply Array.ext
 ·simp [V16]
 ·intro i h1 h2;simp [V16] at h2;by_cases h:y=i
  ·subst h;simp [V16]
  ·have:¬ i=y:=fun e=>h e.symm;simp [V16,h,this]
structure FoI (w W:World) (T:Nat -> Si) (f:Nat -> Int) (co:Option Addr) (cn cc:Nat) (cl:List Sn):Prop where
 a:ISets W w.heap.size 132 T
 z:PBox W (w.heap.size+1) pv0
 p:PBox W (w.heap.size+1+1) ⟨none,0,0,co,cn,cc,⟨[],cl⟩⟩
 v:W.heap[w.heap.size+1+1+1]? = some (.cells (V16 f) 3 (0,0))
 o:OwnS w.heap.size (w.heap.size+1+1+1+1) w W co cc cl
 l:cl.length=cn
theorem OwnS.set {B0 B:Nat} {w w':World} {ao:Option Addr} {cap:Nat} {acc:List Sn} (O:OwnS B0 B w w' ao cap acc) {q t:Nat} {v:Value} (h1:B0 <= q) (h2:q < B):OwnS B0 B w (w'.setCell ⟨q,t,none⟩ v) ao cap acc:=by
 refine ⟨⟨O.own.1,?_⟩,V.below_setCell O.below h1,by simpa [World.setCell] using O.hB,O.hB0⟩;rcases O.own.2 with h | ⟨g,cap2,cur,hv,hbg,hgg,r⟩
 ·exact Or.inl h
 ·exact Or.inr ⟨g,cap2,cur,hv,hbg,(setCell_other (by omega)).trans hgg,r⟩
theorem FoI.congr {w W:World} {T:Nat -> Si} {f f':Nat -> Int} {co:Option Addr} {cn cc:Nat} {cl cl':List Sn} (I:FoI w W T f co cn cc cl) (h:∀ q,f q=f' q) (hc:cl=cl'):FoI w W T f' co cn cc cl':=by
 obtain rfl:f=f':=funext h;subst hc;exact I
theorem FoI.on {w W W':World} {T:Nat -> Si} {f:Nat -> Int} {co:Option Addr} {cn cc:Nat} {cl:List Sn} (I:FoI w W T f co cn cc cl) (hb:Below W.heap.size W W'):FoI w W' T f co cn cc cl:=
 ⟨I.a.below hb,I.z.below hb,I.p.below hb,(hb.block _ (Array.getElem?_eq_some_iff.1 I.v).1).trans I.v,I.o.later hb,I.l⟩
theorem FoI.vset {w W:World} {T:Nat -> Si} {f:Nat -> Int} {co:Option Addr} {cn cc:Nat} {cl:List Sn} (I:FoI w W T f co cn cc cl) (y:Nat) (z:Int):FoI w (W.setCell ⟨w.heap.size+1+1+1,y,none⟩ (.int .i64 z)) T (fun q=>if q=y then z else f q) co cn cc cl:=by
 have hs:∀ {q:Nat},q≠w.heap.size+1+1+1 -> (W.setCell ⟨w.heap.size+1+1+1,y,none⟩ (.int .i64 z)).heap[q]? = W.heap[q]?:=fun h=>setCell_other h;refine ⟨(hs (by omega)).trans I.a,(hs (by omega)).trans I.z,(hs (by omega)).trans I.p,?_,I.o.set (by omega) (by omega),I.l⟩;have h:=I.v;simp [World.setCell,h,Array.getElem?_modify,V16_set]
theorem FoI.cset {w W W2:World} {T:Nat -> Si} {f:Nat -> Int} {co:Option Addr} {cn cc:Nat} {cl:List Sn} (I:FoI w W T f co cn cc cl) {g c2:Nat} {e:Sn} (O:OwnS w.heap.size (w.heap.size+1+1+1+1) w W2 (some ⟨g,0,none⟩) c2 (cl++[e])) (hk:∀ k,k < w.heap.size+1+1+1+1 -> W2.heap[k]? = W.heap[k]?) {v:Value} (hv:v = .slice (some ⟨g,0,none⟩) (cn+1) c2) :
  FoI w (W2.setCell ⟨w.heap.size+1+1,1,none⟩ v) T f (some ⟨g,0,none⟩) (cn+1) c2 (cl++[e]):=by
 subst hv;have hs:∀ {q:Nat},q≠w.heap.size+1+1 -> (W2.setCell ⟨w.heap.size+1+1,1,none⟩ (.slice (some ⟨g,0,none⟩) (cn+1) c2)).heap[q]? = W2.heap[q]?:=fun h=>setCell_other h;refine ⟨(hs (by omega)).trans ((hk _ (by omega)).trans I.a),(hs (by omega)).trans ((hk _ (by omega)).trans I.z),?_,(hs (by omega)).trans ((hk _ (by omega)).trans I.v),O.set (by omega) (by omega),by rw [List.length_append,I.l];rfl⟩;have h:=(hk _ (by omega)).trans I.p;unfold PBox;simp [World.setCell,h,Array.getElem?_modify,PC]
end
end Go.Proofs.YtaphmhbmhcahaabGreat
