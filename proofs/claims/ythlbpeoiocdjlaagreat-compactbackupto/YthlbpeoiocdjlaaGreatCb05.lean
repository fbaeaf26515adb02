import Derived.Test.YthlbpeoiocdjlaaGreatTk
import Derived.Shelf.SlSortCmp.WholeK
import Derived.Shelf.SlGeneric
import Derived.Ground.SlsfProg
import Derived.Test.YthlbpeoiocdjlaaGreatProg
import Derived.Test.YthlbpeoiocdjlaaGreatCb00
import Derived.Shelf.SlSortCmp.NoneTotal
import Derived.Shelf.SlicesQ.Reverse
import Derived.Lib.OwnBridge
set_option maxRecDepth 100000
set_option maxHeartbeats 4000000
namespace Go.Proofs
open Go.Shelf
def Tryz.sortR_ren:Go.Shelf.Ren:=⟨fun | 6=>155 | 15=>136 | 14=>193 | 28=>177 | 29=>178 | 20=>214 | 21=>215 | 22=>216 | 23=>217 | 24=>218 | 25=>219 | 26=>220 | 27=>221 | 46=>231 | 47=>198 | 48=>199 | 49=>232 | 50=>233 | 57=>235 | n=>n,fun | 22=>103 | 24=>142 | 25=>194 | 3=>3 | 39=>178 | 0=>0 | 53=>210 | 55=>212 | 4=>4 | 46=>204 | 45=>203 | 50=>168 | 5=>5 | 9=>9 | 66=>223 | 70=>227 | 76=>242 | 77=>125 | n=>n,fun | n=>n⟩
theorem Tryz.sortR:Go.Proofs.SlLaysF0.n6 Tryz.prog Tryz.sortR_ren:={
 mixed:=by kernel_rfl
 f6:=⟨Tryz.f155.name,by decide,Tryz.func155.trans (congrArg some (by kernel_rfl))⟩
 f14:=⟨Tryz.f193.name,by decide,Tryz.func193.trans (congrArg some (by kernel_rfl))⟩
 f15:=Tryz.func136.trans (congrArg some (by kernel_rfl))
 f20:=⟨Tryz.f214.name,by decide,Tryz.func214.trans (congrArg some (by kernel_rfl))⟩
 f21:=⟨Tryz.f215.name,by decide,Tryz.func215.trans (congrArg some (by kernel_rfl))⟩
 f22:=⟨Tryz.f216.name,by decide,Tryz.func216.trans (congrArg some (by kernel_rfl))⟩
 f23:=⟨Tryz.f217.name,by decide,Tryz.func217.trans (congrArg some (by kernel_rfl))⟩
 f24:=⟨Tryz.f218.name,by decide,Tryz.func218.trans (congrArg some (by kernel_rfl))⟩
 f25:=⟨Tryz.f219.name,by decide,Tryz.func219.trans (congrArg some (by kernel_rfl))⟩
 f26:=⟨Tryz.f220.name,by decide,Tryz.func220.trans (congrArg some (by kernel_rfl))⟩
 f27:=⟨Tryz.f221.name,by decide,Tryz.func221.trans (congrArg some (by kernel_rfl))⟩
 f28:=Tryz.func177.trans (congrArg some (by kernel_rfl))
 f29:=Tryz.func178.trans (congrArg some (by kernel_rfl))
 f46:=⟨Tryz.f231.name,by decide,Tryz.func231.trans (congrArg some (by kernel_rfl))⟩
 f47:=Tryz.func198.trans (congrArg some (by kernel_rfl))
 f48:=Tryz.func199.trans (congrArg some (by kernel_rfl))
 f49:=⟨Tryz.f232.name,by decide,Tryz.func232.trans (congrArg some (by kernel_rfl))⟩
 f50:=⟨Tryz.f233.name,by decide,Tryz.func233.trans (congrArg some (by kernel_rfl))⟩
 f57:=⟨Tryz.f235.name,by decide,Tryz.func235.trans (congrArg some (by kernel_rfl))⟩
 t0:=Tryz.underlying0
 a0:=Tryz.isAgg0
 z0:=Tryz.sizeOf0
 v0:=Tryz.zeroValue0
 t3:=Tryz.underlying3
 a3:=Tryz.isAgg3
 z3:=Tryz.sizeOf3
 v3:=Tryz.zeroValue3
 t4:=Tryz.underlying4
 a4:=Tryz.isAgg4
 z4:=Tryz.sizeOf4
 v4:=Tryz.zeroValue4
 t5:=Tryz.underlying5
 a5:=Tryz.isAgg5
 z5:=Tryz.sizeOf5
 v5:=Tryz.zeroValue5
 t9:=Tryz.underlying9
 a9:=Tryz.isAgg9
 z9:=Tryz.sizeOf9
 v9:=Tryz.zeroValue9
 t22:=Tryz.underlying103
 a22:=Tryz.isAgg103
 z22:=Tryz.sizeOf103
 v22:=Tryz.zeroValue103
 t25:=Tryz.underlying194
 a25:=Tryz.isAgg194
 z25:=Tryz.sizeOf194
 v25:=Tryz.zeroValue194
 t39:=Tryz.underlying178
 a39:=Tryz.isAgg178
 z39:=Tryz.sizeOf178
 v39:=Tryz.zeroValue178
 t45:=Tryz.underlying203
 a45:=Tryz.isAgg203
 z45:=Tryz.sizeOf203
 v45:=Tryz.zeroValue203
 t46:=Tryz.underlying204
 a46:=Tryz.isAgg204
 z46:=Tryz.sizeOf204
 v46:=Tryz.zeroValue204
 t50:=Tryz.underlying168
 a50:=Tryz.isAgg168
 z50:=Tryz.sizeOf168
 v50:=Tryz.zeroValue168
 t53:=Tryz.underlying210
 a53:=Tryz.isAgg210
 z53:=Tryz.sizeOf210
 v53:=Tryz.zeroValue210
 t55:=Tryz.underlying212
 a55:=Tryz.isAgg212
 z55:=Tryz.sizeOf212
 v55:=Tryz.zeroValue212
 t66:=Tryz.underlying223
 a66:=Tryz.isAgg223
 z66:=Tryz.sizeOf223
 v66:=Tryz.zeroValue223
 t70:=Tryz.underlying227
 a70:=Tryz.isAgg227
 z70:=Tryz.sizeOf227
 v70:=Tryz.zeroValue227
 t76:=Tryz.underlying242
 a76:=Tryz.isAgg242
 z76:=Tryz.sizeOf242
 v76:=Tryz.zeroValue242
 t77:=Tryz.underlying125
 a77:=Tryz.isAgg125
 z77:=Tryz.sizeOf125
 v77:=Tryz.zeroValue125 }
end Go.Proofs
namespace Go.Proofs.YthlbpeoiocdjlaaGreat
section
open Go.RowKit Go.Sort

def encR (r:Rn):List Value:=(RC r).toList
theorem encR_len (r:Rn):(encR r).length=2:=rfl
structure MR (W:World) (ad:Addr) (d:Array Rn):Prop where
 hk:HoldsK encR 2 W ad.block 0 d
 lt:ad.block < W.heap.size
 ha:ad=⟨ad.block,0,none⟩
theorem MR.at {W:World} {ad:Addr} {d:Array Rn} (M:MR W ad d) (i:Nat) (hi:i < d.size):RnAt W (ad.add (i * 2)) d[i]! := by
 have h:∀ c,c < 2 -> W.cell? ⟨ad.block,i * 2+c,none⟩=some (encR d[i]!)[c]! := fun c hc=>by
  have:=(M.hk.cell hi hc).1;rwa [Nat.zero_add] at this
 rw [M.ha,Addr.add_lit,Nat.zero_add];exact ⟨h 0 (by omega),by rw [Addr.add_lit];exact h 1 (by omega)⟩
theorem MR.rsrc {W:World} {ad:Addr} {d:Array Rn} (M:MR W ad d) (n c:Nat) (hn:d.size=n) (hc:n <= c) (hcm:c <= maxLen) (hm:n <= 8796093022207):RSrc W (some ad) n c d.toList:=by
 refine ⟨by simpa using hn,fun h=>(by cases h),fun ad' h t ht=>?_,hc,hcm,hm⟩;obtain rfl:=Option.some.inj h
 have e:d.toList.getD t rn0=d[t]! := by
  rw [List.getD,Array.getElem?_toList,Array.getElem?_eq_getElem (by omega),getElem!_pos d t (by omega)];rfl
 rw [e];exact M.at t (by omega)
theorem OwnR.mr {B0 B:Nat} {w w':World} {ad:Addr} {cap:Nat} {acc:List Rn} (O:OwnR B0 B w w' (some ad) cap acc):MR w' ad acc.toArray/\B <= ad.block/\acc.length <= cap/\cap <= maxLen:=by
 rcases O.own.2 with ⟨h0,_⟩ | ⟨g,c,cur,hv,hbg,hgg,hnc,hcm,hcsz,htake⟩
 ·cases h0
 ·simp only [Value.slice.injEq,Option.some.injEq,true_and] at hv;obtain ⟨rfl,rfl⟩:=hv;refine ⟨⟨fun j hj=>?_,(Array.getElem?_eq_some_iff.1 hgg).1,rfl⟩,hbg,hnc,hcm⟩;rw [Sort.size_flatK] at hj
  have hj':j < acc.length * 2:=by simpa using hj
  refine ⟨?_,by simp [World.frozen?,hgg]⟩;rw [Nat.zero_add,O.own.cellAt j (by omega),Sort.get_flatK _ _ _ _ hj];have e4:=rcs_at acc (j / 2) (j % 2) (by omega) (by omega);rw [show j / 2 * 2+j % 2=j by omega] at e4;rw [e4]
  have e5:acc.toArray[j / 2]! = acc.getD (j / 2) rn0:=by
   rw [getElem!_pos acc.toArray (j / 2) (by simp;omega)];simp [List.getD,show j / 2 < acc.length by omega]
  rw [e5]
  have:j % 2=0∨j % 2=1:=by omega
  rcases this with h | h <;> rw [h] <;> rfl
def cmpI (x y:Int):Int:=if x < y then -1 else if y < x then 1 else 0
theorem isNaN_any (x:Int) (w:World):Calls Tryz.prog 163 #[.int .i64 x] w fun e w'=>e = .returned (.bool false)/\w'=w:=by
 have h:(x != x)=false:=by simp
 go_enter Tryz.func163,Tryz.ntmps163;go_wp2_with fail;go_ret;exact ⟨by simp,rfl⟩
theorem cmp_any (x y:Int) (w:World):Calls Tryz.prog 128 #[.int .i64 x,.int .i64 y] w fun e w'=>e = .returned (.int .i64 (cmpI x y))/\w'=w:=by
 by_cases h1:x < y
 ·have HC:Hid (cmpI x y = -1):=by show _=_;unfold cmpI;rw [if_pos h1]
  go_enter Tryz.func128,Tryz.ntmps128;go_wp2_with (go_at_call 163;refine (isNaN_any _ _).mono ?_;rintro e w' ⟨rfl,rfl⟩);go_ret;exact ⟨ret_int HC.out.symm,rfl⟩
 ·by_cases h2:y < x
  ·have HC:Hid (cmpI x y=1):=by show _=_;unfold cmpI;rw [if_neg h1,if_pos h2]
   go_enter Tryz.func128,Tryz.ntmps128;go_wp2_with (go_at_call 163;refine (isNaN_any _ _).mono ?_;rintro e w' ⟨rfl,rfl⟩);go_ret;exact ⟨ret_int HC.out.symm,rfl⟩
  ·have HC:Hid (cmpI x y=0):=by show _=_;unfold cmpI;rw [if_neg h1,if_neg h2]
   go_enter Tryz.func128,Tryz.ntmps128;go_wp2_with (go_at_call 163;refine (isNaN_any _ _).mono ?_;rintro e w' ⟨rfl,rfl⟩);go_ret;exact ⟨ret_int HC.out.symm,rfl⟩
def byLo (x y:Rn):Int:=cmpI x.lo y.lo
theorem byLo_lt (x y:Rn):ltOf byLo x y=decide (x.lo < y.lo):=by
 unfold ltOf byLo cmpI;by_cases h1:x.lo < y.lo
 ·simp [h1]
 ·by_cases h2:y.lo < x.lo <;> simp [h1,h2]
theorem byLo_swo:SWO (ltOf byLo) where
 irrefl x:=by rw [byLo_lt];simp
 trans x y z h1 h2:=by rw [byLo_lt] at *;simp at *;omega
 ntrans x y z h1 h2:=by rw [byLo_lt] at *;simp at *;omega
def Grew (w w':World):Prop:=∃ q os,w'=grow (w.drewN q) os
theorem grew_two (w:World) (a b:Obj):Grew w ((w.alloc a).alloc b):=by
 refine ⟨0,#[a]++#[b],?_⟩;rw [alloc_eq_grow (w.alloc a) b,alloc_eq_grow w a,grow_grow];rfl
theorem byLo_any (x y:Rn) (w:World):Calls Tryz.prog 156 #[.agg #[.int .i64 x.lo,.int .i64 x.hi],.agg #[.int .i64 y.lo,.int .i64 y.hi]] w fun e w'=>e = .returned (.int .i64 (byLo x y))/\Grew w w':=by
 have HG:=hide (grew_two w (.cells #[.int .i64 x.lo,.int .i64 x.hi] 142) (.cells #[.int .i64 y.lo,.int .i64 y.hi] 142));obtain ⟨p,Hp⟩:∃ p,Hid (byLo x y=p):=⟨_,rfl⟩
 have HC:Hid (∀ W,Calls Tryz.prog 128 #[.int .i64 x.lo,.int .i64 y.lo] W fun e w'=>e = .returned (.int .i64 p)/\w'=W):=fun W=>by rw [<- Hp.out];exact cmp_any _ _ W
 rw [Hp.out];go_enter Tryz.func156,Tryz.ntmps156;go_wp2_with (go_at_call 128;refine (HC.out _).mono ?_;rintro e w' ⟨rfl,rfl⟩);go_ret;exact ⟨rfl,HG.out⟩
theorem cmpLays (blk size:Nat) (w:World):CmpLays Tryz.prog 156 #[] encR 2 byLo blk 0 size w:=
 fun _ _ _ _ x y=>byLo_any x y _
theorem sortFunc_any (ad:Addr) (cap n:Nat) (d:Array Rn) (w:World) (M:MR w ad d) (hn:d.size=n) (hb:n <= 8796093022207) :
  Calls Tryz.prog 155 #[.slice (some ad) n cap,.func (.func 156) #[] #[]] w fun e w'=>e = .returned (.tuple #[])/\∃ d',d'.toList.Perm d.toList/\d'.toList.Pairwise (fun x y=>x.lo <= y.lo)/\d'.size=n/\MR w' ad d'/\Below ad.block w w':=by
 subst hn;have eg:∀ args w,(callFunc 156 args).run Tryz.prog w = .ok (.enter 156 args) w:=enters_of Tryz.func156 (by kernel_rfl) rfl;have h:=AnyQ.slices_SortFunc Tryz.sortR 2 Tryz.isAgg142 Tryz.sizeOf142 encR (fun _=>rfl) (fun x v hv=>RC_one x v hv) byLo byLo_swo 156 #[] ad.block 0 cap d w eg (cmpLays ad.block d.size w) M.hk M.lt (by omega);rw [<- M.ha] at h;refine Calls.mono h ?_;rintro e w' ⟨rfl,d',m,os,⟨hs,_,hp⟩,hsr,rfl⟩;refine ⟨rfl,d',?_,?_,hs,⟨holdsK_sortWorldK_c encR 2 w ad.block 0 d d' m os M.hk M.lt hs,?_,M.ha⟩,?_⟩
 ·have e1:d'.extract 0 d.size=d':=by rw [<- hs];simp
  have e2:d.extract 0 d.size=d:=by simp
  rwa [e1,e2] at hp
 ·rw [List.pairwise_iff_getElem];intro i j hi hj hij;have:=hsr i j (Nat.zero_le _) hij (by rw [<- hs];simpa using hj);rw [byLo_lt] at this;rw [getElem!_pos d' j (by simpa using hj),getElem!_pos d' i (by simpa using hi)] at this;simp only [Array.getElem_toList];simp at this;exact this
 ·have:=M.lt
  show ad.block < ((putRow id (Sort.ahead w m) ad.block 0 (flatK encR 2 d')).heap++os).size
  rw [Array.size_append,size_putRow]
  show ad.block < w.heap.size+os.size
  omega
 ·have h1:Below ad.block w (putRow id (Sort.ahead w m) ad.block 0 (flatK encR 2 d')):=Lib.below_putRow (Below.refl _ _) (Nat.le_refl _);refine h1.trans ?_
  have hsz:ad.block <= (putRow id (Sort.ahead w m) ad.block 0 (flatK encR 2 d')).heap.size:=by rw [size_putRow];exact Nat.le_of_lt M.lt
  show Below ad.block _ (grow (putRow id (Sort.ahead w m) ad.block 0 (flatK encR 2 d')) os)
  generalize putRow id (Sort.ahead w m) ad.block 0 (flatK encR 2 d')=V at hsz;exact ⟨rfl,rfl,rfl,by show _ <= (V.heap++os).size;rw [Array.size_append];omega,fun k hk=>by show (V.heap++os)[k]? = _;rw [Array.getElem?_append_left (by omega)]⟩
theorem sort0 (ao:Option Addr) (cap:Nat) (w:World):Calls Tryz.prog 155 #[.slice ao 0 cap,.func (.func 156) #[] #[]] w fun e w'=>e = .returned (.tuple #[])/\w'=w:=AnyF.slices_SortFunc_none Tryz.sortR ao cap _ w
end
section
open Go.RowKit
attribute [local go_sem ↓] ldR_eq stR_eq
attribute [local go_sem] zero_RC cells_RV RC_size fold_RC
theorem resR {fn:Func} {p:Tmp} {w:World} {g:Nat} {T:TypeId} {r:Rn} (h:fn.results=#[.cell p 142]) {tmps:Array Value} (hp:tmps.getD p undef = .pointer (some ⟨g,0,none⟩)) (A:Box w g T r) :
  (results fn tmps).run Tryz.prog w = .ok (RV r) w:=by
 have hl:=run_lvR A.at
 simp only [results,h];rw [Array.getD_eq_getD_getElem?] at hp;simp [hp,asAddr,hl]
theorem clip_any (r:Rn) (w:World):Calls Tryz.prog 154 #[RV r] w fun e w'=>e = .returned (RV (clip r))/\Below w.heap.size w w':=by
 have B1:=below_new w (.cells (RC r) 142);have HB:Hid (Below w.heap.size w ((w.alloc (.cells (RC r) 142)).alloc (.cells (RC rn0) 142))):=B1.trans ((below_new _ _).mono B1.size);have X1:=(box_new w 142 r).below (below_new _ (.cells (RC rn0) 142));have X2:=box_new (w.alloc (.cells (RC r) 142)) 142 rn0;rw [World.size_alloc] at X2;have c0:=X1.at.c0;have c1:((w.alloc (.cells (RC r) 142)).alloc (.cells (RC rn0) 142)).cell? ⟨w.heap.size,1,none⟩=some (.int .i64 r.hi):=X1.at.c1;have HX:=hide (X2.setRow (r':=clip r));have hst:(stR (.pointer (some ⟨w.heap.size+1,0,none⟩)) (.agg (((RC rn0).setIfInBounds 0 (.int .i64 (max r.lo 1))).setIfInBounds 1 (.int .i64 (min r.hi 1000000000))))).run Tryz.prog ((w.alloc (.cells (RC r) 142)).alloc (.cells (RC rn0) 142)) = .ok () (((w.alloc (.cells (RC r) 142)).alloc (.cells (RC rn0) 142)).setRow (w.heap.size+1) (RC (clip r))):=run_stR (r':=clip r) X2
 have HB2:Hid (Below w.heap.size w (((w.alloc (.cells (RC r) 142)).alloc (.cells (RC rn0) 142)).setRow (w.heap.size+1) (RC (clip r)))):=below_setRow HB.out (by omega);clear X1 X2 B1;go_enter Tryz.func154,Tryz.ntmps154;go_wp2_with fail;exact bodyPost_ret (resR Tryz.results154 rfl HX.out) rfl ⟨rfl,HB2.out⟩
theorem OwnR.setHi {B0 B:Nat} {w w':World} {ad:Addr} {cap:Nat} {i:List Rn} {x:Rn} (O:OwnR B0 B w w' (some ad) cap (i++[x])) (h:Int):OwnR B0 B w (w'.setCell ((ad.add (i.length * 2)).add 1) (.int .i64 h)) (some ad) cap (i++[⟨x.lo,h⟩])/\w'.frozen? ((ad.add (i.length * 2)).add 1)=false:=by
 have hln:(i++[(⟨x.lo,h⟩:Rn)]).length=(i++[x]).length:=by simp
 rcases O.own.2 with ⟨h0,_⟩ | ⟨g,c,cur,hv,hbg,hgg,hnc,hcm,hcsz,htake⟩
 ·cases h0
 ·simp only [Value.slice.injEq,Option.some.injEq,true_and] at hv;obtain ⟨rfl,rfl⟩:=hv;rw [Addr.add_lit,Addr.add_lit,Nat.zero_add];have hB:=O.hB;refine ⟨⟨⟨by rw [rcs_length],Or.inr ⟨g,cap,cur.setIfInBounds (i.length * 2+1) (.int .i64 h),by rw [hln],hbg,heap_setCell_same w' g (i.length * 2+1) cur 142 _ hgg,by rw [hln];exact hnc,hcm,by simpa using hcsz,?_⟩⟩,O.below.setCell (by have:=O.hB0;show B0 <= g;omega) _,by simpa [World.setCell] using hB,O.hB0⟩,by simp [World.frozen?,hgg]⟩;rw [Array.toList_setIfInBounds,List.take_set,hln,htake,rcs_append,rcs_append,rcs_one,rcs_one,List.set_append_right _ _ (by rw [rcs_length];omega),rcs_length];rw [show i.length * 2+1 - i.length * 2=1 by omega];rfl
def GivesRN (w w':World) (e:Ending) (P:List Rn -> Prop):Prop:=∃ ao n c L,e = .returned (.slice ao n c)/\RSrc w' ao n c L/\Below w.heap.size w w'/\(∀ ad,ao=some ad -> w.heap.size <= ad.block)/\P L
theorem GivesRN.gives {w w':World} {e:Ending} {P:List Rn -> Prop} (h:GivesRN w w' e P):GivesR w w' e P:=by
 obtain ⟨ao,n,c,L,e1,S,b,_,p⟩:=h;exact ⟨ao,n,c,L,e1,S,b,p⟩
theorem merge_new (ao:Option Addr) (n cap:Nat) (P:List Rn) (w:World) (hS:RSrc w ao n cap P) (hs:P.Pairwise (fun x y=>x.lo <= y.lo)) (hc:∀ x,x∈P -> 1 <= x.lo/\x.lo <= x.hi/\x.hi <= 1000000000) :
  Calls Tryz.prog 157 #[.slice ao n cap] w fun e w'=>GivesRN w w' e (NormOf P):=by
 have HS:=hide hS;have hn:=hS.big;have HL:Hid (P.length=n):=hS.len;have HP:=hide hs;have HC:=hide hc;clear hS hs hc;go_enter Tryz.func157,Tryz.ntmps157;go_wp2_with fail;go_loopw [3,5,6,9] (fun v _ _ i wr=>∃ (k:Nat) (ap:Option Addr) (c:Nat) (acc:List Rn),k <= n/\acc.length <= k/\v = .slice ap acc.length c/\i = .int .i64 k/\Hid (MgInv (P.take k) acc/\OwnR w.heap.size w.heap.size w wr ap c acc)) (fun _ _ _ i _=>n - (intOf i).toNat)
 case atStart=>exact ⟨0,none,0,[],Nat.zero_le _,Nat.le_refl _,rfl,rfl,MgInv.start,OwnR.nil (Below.refl _ _) (Nat.le_refl _) (Nat.le_refl _)⟩
 case round =>
  obtain ⟨k,ap,c,acc,hk,hal,rfl,rfl,H⟩:=hrel
  rename World=>w4
  by_cases hlt:k < n
  ·obtain ⟨ad,rfl,A0⟩:=(HS.out.below H.out.2.below).at k hlt;have hld:=run_ldR A0;obtain ⟨r,Hr⟩:∃ r,Hid (P.getD k rn0=r):=⟨_,rfl⟩;rw [Hr.out] at hld
   have hkl:k < P.length:=by rw [HL.out];exact hlt
   have hgk:P.getD k rn0=P[k]'hkl:=by simp [List.getD,hkl]
   have HRM:Hid (r∈P):=by show _∈_;rw [<- Hr.out,hgk];exact List.getElem_mem _
   have HRC:=hide (HC.out r HRM.out)
   have HT:Hid (P.take (k+1)=P.take k++[r]):=by show _=_;rw [List.take_succ_eq_append_getElem hkl,<- hgk,Hr.out]
   have HRS:Hid (∀ p,p∈P.take k -> p.lo <= r.lo):=fun p hp=>by
    obtain ⟨j,hj,rfl⟩:=List.mem_iff_getElem.1 hp;rw [List.length_take] at hj;rw [<- Hr.out,hgk,List.getElem_take];exact List.pairwise_iff_getElem.1 HP.out j k (by omega) hkl (by omega)
   obtain ⟨w5,hst,X5,B5,Z5⟩:=made w4 r w4.heap.size rfl;have HX5:=hide X5;have HO5:=hide (H.out.2.later B5);clear A0 X5 B5 hgk hkl;obtain ⟨lo,hi⟩:=r;have r1:=HRC.out.1;have r2:=HRC.out.2.1;have r3:=HRC.out.2.2;simp only at r1 r2 r3;rcases List.eq_nil_or_concat acc with e | ⟨i,x,e⟩
   ·subst e
    have HN:Hid (MgInv (P.take (k+1)) ([]++[⟨lo,hi⟩])):=by rw [HT.out];exact H.out.1.first r1 r2 r3
    have hm1:IntKind.i64.wrap ((0:Int) - 1) = -1:=by rw [IntKind.wrap_i64];omega
    go_wp2_with fail;refine wp_region_quiet_below (by kernel_rfl) (by kernel_rfl) ?_
    repeat (with_reducible (refine wpQuiet_step ?_);intro K hK;go_simp;(try rw [if_neg (by unfold undef;simp)]);first | (with_reducible (refine hK _ ?_);clear hK K) | (apply Exists.intro;refine ⟨fun _=>?_,hK _ ?_⟩;(fail);clear hK K))
    with_reducible (refine wpQuiet_nil ?_)
    intro w6 hw';obtain ⟨⟨dq,osq⟩,hw''⟩:=hw'
    have b6:Below w5.heap.size w5 w6:=by rw [hw''];exact below_regrown w5 dq osq
    clear hw'' dq osq;have HO6:=hide (HO5.out.later b6)
    have l6:=run_ldR (HX5.out.below b6).at
    clear b6;go_wp2_with (at_builtin;refine HO6.out.append ⟨lo,hi⟩ _ rfl (by simp) rfl (.tmp 41) (.tmp 43) rfl 0 rfl rfl rfl ?_;intro g7 c7 w7 O7);go_roundw
    case rel=>exact ⟨k+1,some ⟨g7,0,none⟩,c7,[]++[⟨lo,hi⟩],by omega,by simp,by simp,by go_num,HN.out,O7⟩
    case measure=>simp [intOf];omega
   ·rw [List.concat_eq_append] at e;subst e;obtain ⟨j,hj⟩:∃ j,i.length=j:=⟨_,rfl⟩;obtain ⟨m,hlj⟩:∃ m,(i++[x]).length=m:=⟨_,rfl⟩
    have hjm:j+1=m:=by rw [<- hlj];simp [hj]
    have HJM:=hide hjm;rw [hlj] at hal ⊢
    have hm1:IntKind.i64.wrap ((m:Int) - 1)=(j:Int):=by rw [IntKind.wrap_i64];omega
    have hd0:decide ((0:Int) <= (j:Int))=true:=decide_eq_true (by omega)
    have hjj:j < m:=by omega
    clear hjm;have HF:=hide (form_last H.out.1.frm);obtain ⟨S5,F5⟩:=HO5.out.src (by rw [hlj];omega);rw [hlj] at S5;obtain ⟨ap',rfl,A5⟩:=S5.at j hjj;obtain ⟨g,rfl⟩:∃ g,ap'=⟨g,0,none⟩:=⟨ap'.block,HO5.out.mr.1.ha⟩
    have hgx:(i++[x]).getD j rn0=x:=by simp [List.getD,<- hj]
    rw [hgx] at A5;have HA5:=hide A5;clear S5 F5 A5 hgx;obtain ⟨xl,xh⟩:=x;have f2:=HF.out.2.1;have f3:=HF.out.2.2;simp only at f2 f3
    have hw1:IntKind.i64.wrap (xh+1)=xh+1:=by rw [IntKind.wrap_i64];have:=HF.out.1;simp only at this;omega
    have k0:∀ d os,(Sort.grow (redrawn w5 d) os).cell? ⟨w4.heap.size,0,none⟩=some (.int .i64 lo):=cell_regrown HX5.out.at.c0
    have A5c:w5.cell? ⟨g,j * 2+1,none⟩=some (.int .i64 xh):=by have:=HA5.out.c1;rw [Addr.add_lit,Addr.add_lit,Nat.zero_add] at this;exact this
    have k1:∀ d os,(Sort.grow (redrawn w5 d) os).cell? ⟨g,j * 2+1,none⟩=some (.int .i64 xh):=cell_regrown A5c;have HA5c:=hide A5c;clear A5c;by_cases hg:lo <= xh+1
    ·have hd1:decide (lo <= xh+1)=true:=decide_eq_true hg
     have HN:Hid (MgInv (P.take (k+1)) (i++[⟨xl,max xh hi⟩])):=by rw [HT.out];exact H.out.1.join HRS.out hg r2 r3
     go_wp2_with fail;refine wp_region_quiet_below (by kernel_rfl) (by kernel_rfl) ?_
     repeat (with_reducible (refine wpQuiet_step ?_);intro K hK;go_simp;(try rw [if_neg (by unfold undef;simp)]);first | (with_reducible (refine hK _ ?_);clear hK K) | (apply Exists.intro;refine ⟨fun _=>?_,hK _ ?_⟩;(fail);clear hK K))
     with_reducible (refine wpQuiet_nil ?_)
     intro w6 hw';obtain ⟨⟨dq,osq⟩,hw''⟩:=hw'
     have b6:Below w5.heap.size w5 w6:=by rw [hw''];exact below_regrown w5 dq osq
     clear hw'' dq osq;have HO6:=hide (HO5.out.later b6);have HA6:=hide (HA5.out.on b6);have HX6:=hide (HX5.out.below b6);clear b6 k0 k1
     have q1:w6.cell? ⟨g,j * 2+1,none⟩=some (.int .i64 xh):=by have:=HA6.out.c1;rw [Addr.add_lit,Addr.add_lit,Nat.zero_add] at this;exact this
     have q2:w6.cell? ⟨w4.heap.size,1,none⟩=some (.int .i64 hi):=HX6.out.at.c1;obtain ⟨O7,fz⟩:=HO6.out.setHi (max xh hi);rw [hj,Addr.add_lit,Addr.add_lit,Nat.zero_add] at O7 fz;have HO7:=hide O7;clear O7;go_wp2_with fail;go_region;go_wp2_with fail;go_roundw
     case rel=>exact ⟨k+1,some ⟨g,0,none⟩,c,i++[⟨xl,max xh hi⟩],by omega,by have:=HJM.out;simp [hj];omega,by have:=HJM.out;simp [hj,this],by go_num,HN.out,HO7.out.later (below_drew1 _)⟩
     case measure=>simp [intOf];omega
    ·have hd1:decide (lo <= xh+1)=false:=decide_eq_false hg
     have HN:Hid (MgInv (P.take (k+1)) (i++[⟨xl,xh⟩]++[⟨lo,hi⟩])):=by rw [HT.out];exact H.out.1.new hg r2 r3
     go_wp2_with fail;refine wp_region_quiet_below (by kernel_rfl) (by kernel_rfl) ?_
     repeat (with_reducible (refine wpQuiet_step ?_);intro K hK;go_simp;(try rw [if_neg (by unfold undef;simp)]);first | (with_reducible (refine hK _ ?_);clear hK K) | (apply Exists.intro;refine ⟨fun _=>?_,hK _ ?_⟩;(fail);clear hK K))
     with_reducible (refine wpQuiet_nil ?_)
     intro w6 hw';obtain ⟨⟨dq,osq⟩,hw''⟩:=hw'
     have b6:Below w5.heap.size w5 w6:=by rw [hw''];exact below_regrown w5 dq osq
     clear hw'' dq osq;have HO6:=hide (HO5.out.later b6)
     have l6:=run_ldR (HX5.out.below b6).at
     clear b6 k0 k1;go_wp2_with (at_builtin;refine HO6.out.append ⟨lo,hi⟩ _ rfl (by rw [hlj];omega) rfl (.tmp 41) (.tmp 43) rfl m hlj rfl rfl ?_;intro g7 c7 w7 O7);go_roundw
     case rel=>exact ⟨k+1,some ⟨g7,0,none⟩,c7,i++[⟨xl,xh⟩]++[⟨lo,hi⟩],by omega,by rw [List.length_append,hlj];simp;omega,by rw [List.length_append,hlj];simp,by go_num,HN.out,O7⟩
     case measure=>simp [intOf];omega
  ·obtain rfl:k=n:=by omega
   have HE:Hid (P.take k=P):=List.take_of_length_le (by rw [HL.out];exact Nat.le_refl _);obtain ⟨S4,F4⟩:=H.out.2.src (by omega);have HN:Hid (GivesRN w w4 (.returned (.slice ap acc.length c)) (NormOf P)):=⟨ap,acc.length,c,acc,rfl,S4,H.out.2.below,F4,H.out.1.frm,fun n=>by rw [H.out.1.mm n,HE.out]⟩;clear S4 F4;go_wp2_with fail;go_ret;exact HN.out
end
section
open Go.RowKit
attribute [local go_sem ↓] ldR_eq stR_eq
attribute [local go_sem] zero_RC cells_RV RC_size fold_RC
theorem norm_new (ao:Option Addr) (n cap:Nat) (L:List Rn) (w:World) (hS:RSrc w ao n cap L) :
  Calls Tryz.prog 117 #[.slice ao n cap] w fun e w'=>GivesRN w w' e (NormOf L):=by
 have HS:=hide hS;have hn:=hS.big;have HL:Hid (L.length=n):=hS.len;clear hS;go_enter Tryz.func117,Tryz.ntmps117;go_wp2_with fail;go_loopw [3,5,6,9] (fun v _ _ i wr=>∃ (k:Nat) (ap:Option Addr) (c:Nat) (acc:List Rn),k <= n/\acc.length <= k/\v = .slice ap acc.length c/\i = .int .i64 k/\Hid (acc=clips (L.take k)/\OwnR w.heap.size w.heap.size w wr ap c acc)) (fun _ _ _ i _=>n - (intOf i).toNat)
 case atStart=>exact ⟨0,none,0,[],Nat.zero_le _,Nat.le_refl _,rfl,rfl,rfl,OwnR.nil (Below.refl _ _) (Nat.le_refl _) (Nat.le_refl _)⟩
 case round =>
  obtain ⟨k,ap,c,acc,hk,hal,rfl,rfl,H⟩:=hrel
  rename World=>w4
  by_cases hlt:k < n
  ·obtain ⟨ad,rfl,A0⟩:=(HS.out.below H.out.2.below).at k hlt;have hld:=run_ldR A0;obtain ⟨r,Hr⟩:∃ r,Hid (L.getD k rn0=r):=⟨_,rfl⟩;rw [Hr.out] at hld
   have hkl:k < L.length:=by rw [HL.out];exact hlt
   have HT:Hid (clips (L.take (k+1))=acc++clips [r]):=by
    show _=_
    rw [List.take_succ_eq_append_getElem hkl,show L[k]=r by rw [<- Hr.out];simp [List.getD,hkl],H.out.1];simp [clips]
   obtain ⟨w5,hst,X5,B5,Z5⟩:=made w4 r w4.heap.size rfl
   have lx:=run_ldR X5.at
   have HO5:=hide (H.out.2.later B5);clear A0 X5 B5 hkl Z5;go_wp2_with fail;refine (clip_any r _).mono ?_;rintro e w6 ⟨rfl,b6⟩;have HO6:=hide (HO5.out.later b6);clear b6 lx hst hld;obtain ⟨q,Hq⟩:∃ q,Hid (clip r=q):=⟨_,rfl⟩;rw [Hq.out];obtain ⟨w7,hst,X7,B7,Z7⟩:=made w6 q w6.heap.size rfl;have HO7:=hide (HO6.out.later B7)
   have lq:=run_ldR X7.at
   have c0:=X7.at.c0;have c1:w7.cell? ⟨w6.heap.size,1,none⟩=some (.int .i64 q.hi):=X7.at.c1;clear X7 B7 Z7;by_cases hc:q.lo <= q.hi
   ·have HN:Hid (clips (L.take (k+1))=acc++[q]):=by show _=_;rw [HT.out];simp [clips,Hq.out,hc]
    go_wp2_with (at_builtin;refine HO7.out.append q _ rfl (by omega) rfl (.tmp 20) (.tmp 22) rfl acc.length rfl rfl rfl ?_;intro g8 c8 w8 O8);go_roundw
    case rel=>exact ⟨k+1,some ⟨g8,0,none⟩,c8,acc++[q],by omega,by simp;omega,by simp,by go_num,HN.out.symm,O8⟩
    case measure=>simp [intOf];omega
   ·have HN:Hid (clips (L.take (k+1))=acc):=by show _=_;rw [HT.out];simp [clips,Hq.out,hc]
    go_wp2_with fail;go_roundw
    case rel=>exact ⟨k+1,ap,c,acc,by omega,by omega,rfl,by go_num,HN.out.symm,HO7.out⟩
    case measure=>simp [intOf];omega
  ·obtain rfl:k=n:=by omega
   have HE:Hid (acc=clips L):=by show _=_;rw [H.out.1,List.take_of_length_le (by rw [HL.out];exact Nat.le_refl _)]
   have HB4:=hide H.out.2.below
   cases ap with
   | none =>
    obtain ⟨S4,_⟩:=H.out.2.src (by omega);obtain ⟨e0,rfl⟩:=S4.nil rfl;rw [e0];have hacc:acc=[]:=List.eq_nil_of_length_eq_zero e0
    have HN:Hid (∀ m,mem [] m↔mem L m):=fun m=>by rw [<- clips_mem L m,<- HE.out,hacc]
    clear S4 e0 hacc;go_wp2_with fail;refine (sort0 none 0 _).mono ?_;rintro e w5 ⟨rfl,rfl⟩;go_wp2_with fail;refine (merge_new none 0 0 [] _ (RSrc.empty _) List.Pairwise.nil (fun x hx=>by cases hx)).mono ?_;rintro e w6 ⟨a6,n6,c6,R6,rfl,S6,b6,f6,p6⟩;have HF:Hid (GivesRN w w6 (.returned (.slice a6 n6 c6)) (NormOf L)):=⟨a6,n6,c6,R6,rfl,S6,HB4.out.trans (b6.mono HB4.out.size),(fun ad h=>Nat.le_trans HB4.out.size (f6 ad h)),p6.1,fun m=>(p6.2 m).trans (HN.out m)⟩;clear S6 b6 f6 p6;go_wp2_with fail;go_ret;exact HF.out
   | some ap =>
    obtain ⟨M4,hbb,hc1,hc2⟩:=H.out.2.mr;have HM4:=hide M4;have HBB:=hide hbb;have HC1:=hide hc1;have HC2:=hide hc2;clear M4 hbb hc1 hc2;obtain ⟨m,hm⟩:∃ m,acc.length=m:=⟨_,rfl⟩;have HM:=hide hm;rw [hm] at hal ⊢;clear hm;go_wp2_with fail;refine (sortFunc_any ap c m acc.toArray _ HM4.out (by rw [List.size_toArray];exact HM.out) (by omega)).mono ?_;rintro e w5 ⟨rfl,d5,hp,hs,hz,M5,b5⟩;have HP:=hide hp;have HSR:=hide hs;have HS5:=hide (M5.rsrc m c hz (by rw [<- HM.out];exact HC1.out) HC2.out (by omega));have HB5:Hid (Below w.heap.size w w5):=HB4.out.trans (b5.mono HBB.out);clear hp hs hz M5 b5;go_wp2_with fail;refine (merge_new (some ap) m c d5.toList _ HS5.out HSR.out (fun x hx=>clips_in L x (by rw [<- HE.out];have:=HP.out.mem_iff.1 hx;simpa using this))).mono ?_;rintro e w6 ⟨a6,n6,c6,R6,rfl,S6,b6,f6,p6⟩
    have HF:Hid (GivesRN w w6 (.returned (.slice a6 n6 c6)) (NormOf L)):=⟨a6,n6,c6,R6,rfl,S6,HB5.out.trans (b6.mono HB5.out.size),(fun ad h=>Nat.le_trans HB5.out.size (f6 ad h)),p6.1,fun m=>by
     rw [p6.2 m,<- clips_mem L m,<- HE.out]
     exact mem_congr (fun x=>by have:=HP.out.mem_iff (a:=x);simpa using this) m⟩
    clear S6 b6 f6 p6;go_wp2_with fail;go_ret;exact HF.out
theorem norm_any (ao:Option Addr) (n cap:Nat) (L:List Rn) (w:World) (hS:RSrc w ao n cap L) :
  Calls Tryz.prog 117 #[.slice ao n cap] w fun e w'=>GivesR w w' e (NormOf L):=(norm_new ao n cap L w hS).mono fun _ _ h=>h.gives
end
section
open Go.RowKit
attribute [local go_sem ↓] ldR_eq stR_eq
attribute [local go_sem] zero_RC cells_RV RC_size fold_RC
theorem RSrc.tail' {w:World} {b o m c:Nat} {r:Rn} {L:List Rn} (h:RSrc w (some ⟨b,o,none⟩) m c (r :: L)):RSrc w (if c=1 then some ⟨b,o,none⟩ else some ⟨b,o+2,none⟩) (m - 1) (c - 1) L:=by
 by_cases e:c=1
 ·rw [if_pos e];have h1:=h.len;have h2:=h.cap;simp at h1;exact ⟨by omega,fun e=>(by cases e),fun ad ha t ht=>by omega,by omega,by omega,by omega⟩
 ·rw [if_neg e];exact h.tail
theorem length_any (r:Rn) (w:World) (h1:1 <= r.lo) (h2:r.hi <= 1000000000) (h3:r.lo <= r.hi):Calls Tryz.prog 118 #[RV r] w fun e w'=>e = .returned (.int .i64 (r.hi - r.lo+1))/\Below w.heap.size w w':=by
 have HB:=hide (below_new w (.cells (RC r) 142));have X1:=box_new w 142 r;have c0:=X1.at.c0;have c1:(w.alloc (.cells (RC r) 142)).cell? ⟨w.heap.size,1,none⟩=some (.int .i64 r.hi):=X1.at.c1
 have e1:IntKind.i64.wrap (r.hi - r.lo)=r.hi - r.lo:=by rw [IntKind.wrap_i64];omega
 have e2:IntKind.i64.wrap (r.hi - r.lo+1)=r.hi - r.lo+1:=by rw [IntKind.wrap_i64];omega
 clear X1;go_enter Tryz.func118,Tryz.ntmps118;go_wp2_with fail;go_ret;exact ⟨by simp,HB.out⟩
theorem form_at:∀ {a:List Rn} {l:Int} (k:Nat),1 <= l -> form l a -> k < a.length -> 1 <= (a.getD k rn0).lo/\(a.getD k rn0).lo <= (a.getD k rn0).hi/\(a.getD k rn0).hi <= 1000000000
 | r :: a,l,0,hl,h,_=>by have:=h.1;have:=h.2.1;have:=h.2.2.1;simp [List.getD];omega
 | r :: a,l,k+1,hl,h,hk=>by
  have:=form_at k (l:=r.hi+2) (by have:=h.1;have:=h.2.1;omega) h.2.2.2 (by simpa using hk);simpa [List.getD] using this
def SizeOf (A:List Rn) (k:Int):Prop:=∃ R,NormOf A R/\k=sz R
theorem size_any (ao:Option Addr) (n cap:Nat) (A:List Rn) (w:World) (hS:RSrc w ao n cap A) :
  Calls Tryz.prog 74 #[.slice ao n cap] w fun e w'=>∃ k,e = .returned (.int .i64 k)/\SizeOf A k/\Below w.heap.size w w':=by
 have HS:=hide hS;clear hS;go_enter Tryz.func74,Tryz.ntmps74;go_wp2_with fail;refine (norm_any ao n cap A _ HS.out).mono ?_;rintro e w1 ⟨a1,n1,c1,X,rfl,S1,b1,p1⟩;have HS1:=hide S1;have HP1:=hide p1;have HB1:=hide b1;have HL:Hid (X.length=n1):=S1.len;have hn:=S1.big;have hz:=sz_bd p1.1;have HZ:=hide hz.2.1
 have hz0:sz X <= 1000000000:=by
  rcases hz.2.1 with e | e
  ·rw [e];simp [sz]
  ·omega
 clear S1 b1 p1 hz;go_wp2_with fail;go_loopw [3,5,9] (fun v _ i wr=>∃ (k:Nat),k <= n1/\v = .int .i64 (sz (X.take k))/\i = .int .i64 k/\Hid (Below w1.heap.size w1 wr)) (fun _ _ i _=>n1 - (intOf i).toNat)
 case atStart=>exact ⟨0,Nat.zero_le _,rfl,rfl,Below.refl _ _⟩
 case round =>
  obtain ⟨k,hk,rfl,rfl,H⟩:=hrel
  rename World=>w4
  have hs1:=sz_take X 1 k HP1.out.1;by_cases hlt:k < n1
  ·obtain ⟨ad,rfl,A0⟩:=(HS1.out.below H.out).at k hlt;have hld:=run_ldR A0;have hfa:=form_at k (Int.le_refl _) HP1.out.1 (by rw [HL.out];exact hlt);obtain ⟨r,Hr⟩:∃ r,Hid (X.getD k rn0=r):=⟨_,rfl⟩;rw [Hr.out] at hld hfa
   have hkl:k < X.length:=by rw [HL.out];exact hlt
   have hs2:=sz_take X 1 (k+1) HP1.out.1
   have HT:Hid (sz (X.take (k+1))=sz (X.take k)+(r.hi - r.lo+1)):=by
    show _=_
    rw [List.take_succ_eq_append_getElem hkl,sz_append,show X[k]=r by rw [<- Hr.out];simp [List.getD,hkl]];simp [sz]
   have hT:=HT.out;obtain ⟨s,hs⟩:∃ s,sz (X.take k)=s:=⟨_,rfl⟩;rw [hs] at hs1 hT ⊢;have HSS:=hide hs
   have hw1:IntKind.i64.wrap (s+(r.hi - r.lo+1))=s+(r.hi - r.lo+1):=by rw [IntKind.wrap_i64];omega
   obtain ⟨w5,hst,X5,B5,Z5⟩:=made w4 r w4.heap.size rfl
   have lx:=run_ldR X5.at
   have HB5:=wTr H B5;have HLN:=hide (length_any r w5 hfa.1 hfa.2.2 hfa.2.1);clear A0 X5 B5 Z5 hkl hT hs hs2 hfa;go_wp2_with fail;refine HLN.out.mono ?_;rintro e w6 ⟨rfl,b6⟩;have HB6:=wTr HB5 b6;clear b6;go_wp2_with fail;go_roundw
   case rel=>exact ⟨k+1,by omega,by rw [HT.out,HSS.out],by go_num,HB6⟩
   case measure=>simp [intOf];omega
  ·obtain rfl:k=n1:=by omega
   have HF:Hid (SizeOf A (sz (X.take k))):=⟨X,HP1.out,by rw [List.take_of_length_le (by rw [HL.out];exact Nat.le_refl _)]⟩;have HBF:=wTr HB1 H.out;go_wp2_with fail;go_ret;exact ⟨_,rfl,HF.out,HBF.out⟩
end
section

def pick:List Rn -> Int -> Int
 | [],_=>0
 | r :: a,k=>if k <= r.hi - r.lo+1 then r.lo+k - 1 else pick a (k - (r.hi - r.lo+1))
def pk (a:List Rn) (k:Int):Int:=if k < 1 then 0 else pick a k
def cutTo:List Rn -> Int -> List Rn
 | [],_=>[]
 | r :: a,n=>if n < r.lo then [] else if n <= r.hi then [⟨r.lo,n⟩] else r :: cutTo a n
def rk (a:List Rn) (n:Int):Int:=sz (cutTo a n)
def fst:List Rn -> Int -> Int
 | [],_=>0
 | r :: a,f=>if f <= r.hi then max r.lo f else fst a f
theorem sz_cons (r:Rn) (a:List Rn):sz (r :: a)=(r.hi - r.lo+1)+sz a:=rfl
end
section

theorem sz_top {a:List Rn} (h:form 1 a):0 <= sz a/\sz a <= 1000000000:=by
 have hz:=sz_bd h;refine ⟨hz.1,?_⟩;rcases hz.2.1 with e | e
 ·rw [e];simp [sz]
 ·omega
end
end Go.Proofs.YthlbpeoiocdjlaaGreat
