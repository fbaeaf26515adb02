/- PSd ONa OBs ONr LRChk LSome LOwn -/
import Derived.Test.YtjffpimfngdggaaGreatFf12
import Derived.Lib.BufferMore
import Derived.Deep.CutRange
import Derived.Lib.MinMax
import Derived.Lib.OthersKept
set_option maxRecDepth 100000
set_option maxHeartbeats 3200000
namespace Go.Proofs.YtjffpimfngdggaaGreat
section
open Go.RowKit Go.Sort

def or2 (a b:Int):Int:=if a=0 then b else a
theorem zix (g:Nat) (a b:Int) (w:World) (c0:w.cell? ⟨g,0,none⟩=some (.int .i64 a)) (c1:w.cell? ⟨g,1,none⟩=some (.int .i64 b)) :
  Calls Tryz.prog 137 #[.slice (some ⟨g,0,none⟩) 2 2] w fun e w'=>e = .returned (.int .i64 (or2 a b))/\w'=w:=by
 go_enter Tryz.func137,Tryz.ntmps137;go_wp2;go_loop [8] (fun i=>∃ k:Nat,k <= 2/\i = .int .i64 k/\Hid (0 < k -> a=0)/\Hid (1 < k -> b=0)) (fun i=>2 - (intOf i).toNat)
 case atStart=>exact ⟨0,Nat.zero_le _,rfl,fun h=>absurd h (by omega),fun h=>absurd h (by omega)⟩
 case round =>
  obtain ⟨k,hk,rfl,Ha,Hb⟩:=hrel;by_cases ak:k < 2
  ·obtain ⟨z,gG,Hz⟩:∃ z,w.cell? ⟨g,k,none⟩=some (.int .i64 z)/\Hid (or2 a b=if z=0/\k=0 then b else z):=by
    match k,ak,Ha with
    | 0,_,_=>exact ⟨a,c0,by show _=_;unfold or2;by_cases h:a=0 <;> simp [h]⟩
    | 1,_,Ha=>exact ⟨b,c1,by show _=_;unfold or2;rw [if_pos (Ha.out (by omega))];simp⟩
   have Dl:Hid (z=0 -> (k=0 -> a=0)/\(k=1 -> b=0)):=by
    intro hz;constructor
    ·intro h;subst h;rw [c0] at gG;simpa [hz] using gG
    ·intro h;subst h;rw [c1] at gG;simpa [hz] using gG
   clear c0 c1;by_cases h0:z=0
   ·have hA:=(Dl.out h0).1;have hB:=(Dl.out h0).2
    have HA:Hid (0 < k+1 -> a=0):=by intro _;by_cases gL:k=0;exact hA gL;exact Ha.out (by omega)
    have HB:Hid (1 < k+1 -> b=0):=by intro _;exact hB (by omega)
    have mS:(z != 0)=false:=by simpa using h0
    clear h0 hA hB;go_wp2;go_round
    case rel=>exact ⟨k+1,by omega,by go_num,HA,HB⟩
    case measure=>simp [intOf];omega
   ·have mS:(z != 0)=true:=by simpa using h0
    have HF:Hid (or2 a b=z):=by show _=_;rw [Hz.out,if_neg (by simp [h0])]
    clear h0;go_wp2;go_ret;exact ⟨zK HF.symm,rfl⟩
  ·have HF:Hid (or2 a b=0):=by show _=_;unfold or2;rw [if_pos (Ha.out (by omega))];exact Hb.out (by omega)
   clear c0 c1;go_wp2;go_ret;exact ⟨zK HF.symm,rfl⟩
def byD (x y:Rn):Int:=or2 (az x.lo y.lo) (az x.hi y.hi)
def lA (x y:Rn):Bool:=decide (x.lo < y.lo) || (x.lo == y.lo && decide (x.hi < y.hi))
theorem wg (x y:Rn):ltOf byD x y=lA x y:=by
 unfold ltOf byD or2 az lA;by_cases h1:x.lo < y.lo
 ·simp [h1]
 ·by_cases h2:y.lo < x.lo
  ·have:¬ x.lo=y.lo:=by omega
   simp [h1,h2,this]
  ·have e:x.lo=y.lo:=by omega
   by_cases h3:x.hi < y.hi
   ·simp [e,h3]
   ·by_cases h4:y.hi < x.hi <;> simp [e,h3,h4]
theorem zcD:SWO (ltOf byD) where
 irrefl x:=by rw [wg];simp [lA]
 trans x y z h1 h2:=by rw [wg] at *;simp [lA] at *;omega
 ntrans x y z h1 h2:=by rw [wg] at *;simp [lA] at *;omega
theorem zcq (w:World) (a b c:Obj):mv w (((w.alloc a).alloc b).drew.alloc c):=by
 refine ⟨1,#[a]++#[b]++#[c],?_⟩;rw [alloc_eq_grow ((w.alloc a).alloc b).drew c,alloc_eq_grow (w.alloc a) b,alloc_eq_grow w a,grow_grow,drew_grow,grow_grow];rfl
structure oT (w W:World) (x y:Rn):Prop where
 below:Below w.heap.size w W
 size:w.heap.size+2 <= W.heap.size
 a0:W.cell? ⟨w.heap.size,0,none⟩=some (.int .i64 x.lo)
 a1:W.cell? ⟨w.heap.size,1,none⟩=some (.int .i64 x.hi)
 b0:W.cell? ⟨w.heap.size+1,0,none⟩=some (.int .i64 y.lo)
 b1:W.cell? ⟨w.heap.size+1,1,none⟩=some (.int .i64 y.hi)
theorem oT.start (w:World) (x y:Rn):oT w ((w.alloc (.cells #[.int .i64 x.lo,.int .i64 x.hi] 48)).alloc (.cells #[.int .i64 y.lo,.int .i64 y.hi] 48)) x y:=
 ⟨(ze w _).trans ((ze _ _).mono (by simp)),by simp,by simp,by simp,by simp,by simp⟩
theorem oT.on {w W W':World} {x y:Rn} (h:oT w W x y) (hb:Below W.heap.size W W'):oT w W' x y:=
 ⟨h.below.trans (hb.mono h.below.size),Nat.le_trans h.size hb.size,(hb.cell (World.block_lt_of_cell? _ _ h.a0)).trans h.a0,(hb.cell (World.block_lt_of_cell? _ _ h.a1)).trans h.a1,(hb.cell (World.block_lt_of_cell? _ _ h.b0)).trans h.b0,(hb.cell (World.block_lt_of_cell? _ _ h.b1)).trans h.b1⟩
theorem yv (a b:Int) (w:World) (g:Nat) (hg:w.heap.size=g):Calls Tryz.prog 137 #[.slice (some ⟨g,0,none⟩) 2 2] (w.alloc (.cells #[.int .i64 a,.int .i64 b] 3)) fun e w'=>e = .returned (.int .i64 (or2 a b))/\w'=w.alloc (.cells #[.int .i64 a,.int .i64 b] 3):=by
 subst hg;exact zix w.heap.size a b _ (by simp) (by simp)
theorem zaY (x y:Rn) (w:World):Calls Tryz.prog 153 #[.agg #[.int .i64 x.lo,.int .i64 x.hi],.agg #[.int .i64 y.lo,.int .i64 y.hi]] w fun e w'=>e = .returned (.int .i64 (byD x y))/\mv w w':=by
 have T0:=hide (oT.start w x y);obtain ⟨w0,lY⟩:∃ w0,Hid ((w.alloc (.cells #[.int .i64 x.lo,.int .i64 x.hi] 48)).alloc (.cells #[.int .i64 y.lo,.int .i64 y.hi] 48)=w0):=⟨_,rfl⟩;rw [lY.out] at T0;have c1:=T0.a0;have c2:=T0.a1;have c3:=T0.b0;have c4:=T0.b1;obtain ⟨p,Hp⟩:∃ p,Hid (az x.lo y.lo=p):=⟨_,rfl⟩;obtain ⟨q,Hq⟩:∃ q,Hid (az x.hi y.hi=q):=⟨_,rfl⟩
 have C1:Hid (∀ W,Calls Tryz.prog 138 #[.int .i64 x.lo,.int .i64 y.lo] W fun e w'=>e = .returned (.int .i64 p)/\w'=W):=fun W=>by rw [<- Hp.out];exact qC _ _ W
 have C2:Hid (∀ W,Calls Tryz.prog 138 #[.int .i64 x.hi,.int .i64 y.hi] W fun e w'=>e = .returned (.int .i64 q)/\w'=W):=fun W=>by rw [<- Hq.out];exact qC _ _ W
 have HF:Hid (or2 p q=byD x y):=by show _=_;unfold byD;rw [Hp.out,Hq.out]
 have T1:Hid (oT w (w0.drew.alloc (.cells #[.int .i64 p,.int .i64 q] 3)) x y):=(T0.on (zf _)).on (ze _ _);have HO:=hide (yv p q w0.drew w0.heap.size rfl)
 have HG:Hid (mv w (w0.drew.alloc (.cells #[.int .i64 p,.int .i64 q] 3))):=by rw [<- lY.out];exact zcq _ _ _ _
 obtain ⟨r,m⟩:=x;obtain ⟨r',m'⟩:=y;go_enter Tryz.func153,Tryz.ntmps153;go_wp2_with fail;rw [lY.out]
 first | (go_region_held (fun W=>W.cell? ⟨w.heap.size,0,none⟩=some (.int .i64 r)/\W.cell? ⟨w.heap.size,1,none⟩=some (.int .i64 m)/\W.cell? ⟨w.heap.size+1,0,none⟩=some (.int .i64 r')/\W.cell? ⟨w.heap.size+1,1,none⟩=some (.int .i64 m')) (first | exact ⟨T1.a0,T1.a1,T1.b0,T1.b1⟩ | go_keep) (first | (go_at_call_of 138 r;refine (C1.out _).mono ?_;rintro e w' ⟨rfl,rfl⟩) | (go_at_call_of 138 m;refine (C2.out _).mono ?_;rintro e w' ⟨rfl,rfl⟩) | (go_at_call 137;refine HO.mono ?_;rintro e w' ⟨rfl,rfl⟩))) | fail
 all_goals (go_wp2_with fail)
 all_goals go_ret
 all_goals exact ⟨zK HF,HG.out⟩
theorem te (blk size:Nat) (w:World):CmpLays Tryz.prog 153 #[] cQ 2 byD blk 0 size w:=
 fun _ _ _ _ x y=>zaY x y _
theorem zeE (ad:Addr) (cap n:Nat) (d:Array Rn) (w:World) (M:MR w ad d) (hn:d.size=n) (hb:n <= 8796093022207) :
  Calls Tryz.prog 152 #[.slice (some ad) n cap,.func (.func 153) #[] #[]] w fun e w'=>e = .returned (.tuple #[])/\∃ d',d'.toList.Perm d.toList/\d'.size=n/\MR w' ad d'/\Below ad.block w w':=by
 subst hn;have eg:∀ args w,(callFunc 153 args).run Tryz.prog w = .ok (.enter 153 args) w:=enters_of Tryz.func153 (by kernel_rfl) rfl;have h:=AnyQ.slices_SortFunc Tryz.sortD 2 Tryz.isAgg48 Tryz.sizeOf48 cQ (fun _=>rfl) (fun x v hv=>j7 x v hv) byD zcD 153 #[] ad.block 0 cap d w eg (te ad.block d.size w) M.hk M.lt (by omega);rw [<- M.ha] at h;refine Calls.mono h ?_;rintro e w' ⟨rfl,d',m,os,⟨hs,_,hp⟩,_,rfl⟩;refine ⟨rfl,d',?_,hs,⟨holdsK_sortWorldK_c cQ 2 w ad.block 0 d d' m os M.hk M.lt hs,?_,M.ha⟩,?_⟩
 ·have e1:d'.extract 0 d.size=d':=by rw [<- hs];simp
  have e2:d.extract 0 d.size=d:=by simp
  rwa [e1,e2] at hp
 ·have:=M.lt
  show ad.block < ((putRow id (Sort.ahead w m) ad.block 0 (flatK cQ 2 d')).heap++os).size
  rw [Array.size_append,size_putRow]
  show ad.block < w.heap.size+os.size
  omega
 ·have h1:Below ad.block w (putRow id (Sort.ahead w m) ad.block 0 (flatK cQ 2 d')):=Lib.below_putRow (Below.refl _ _) (Nat.le_refl _);refine h1.trans ?_
  have dE:ad.block <= (putRow id (Sort.ahead w m) ad.block 0 (flatK cQ 2 d')).heap.size:=by rw [size_putRow];exact Nat.le_of_lt M.lt
  show Below ad.block _ (grow (putRow id (Sort.ahead w m) ad.block 0 (flatK cQ 2 d')) os)
  generalize putRow id (Sort.ahead w m) ad.block 0 (flatK cQ 2 d')=V at dE;exact ⟨rfl,rfl,rfl,by show _ <= (V.heap++os).size;rw [Array.size_append];omega,fun k hk=>by show (V.heap++os)[k]? = _;rw [Array.getElem?_append_left (by omega)]⟩
theorem dX.mr {B0 B:Nat} {w w':World} {ad:Addr} {cap:Nat} {acc:List Rn} (O:dX B0 B w w' (some ad) cap acc):MR w' ad acc.toArray/\B <= ad.block/\acc.length <= cap/\cap <= maxLen:=by
 rcases O.own.2 with ⟨h0,_⟩ | ⟨g,c,cur,hv,dU,dx,hnc,fS,hcsz,htake⟩
 ·cases h0
 ·simp only [Value.slice.injEq,Option.some.injEq,true_and] at hv;obtain ⟨rfl,rfl⟩:=hv;refine ⟨⟨fun j hj=>?_,(Array.getElem?_eq_some_iff.1 dx).1,rfl⟩,dU,hnc,fS⟩;rw [Sort.size_flatK] at hj
  have Le:j < acc.length * 2:=by simpa using hj
  refine ⟨?_,by simp [World.frozen?,dx]⟩;rw [Nat.zero_add,O.own.cellAt j (by omega),Sort.get_flatK _ _ _ _ hj];have e4:=yq acc (j / 2) (j % 2) (by omega) (by omega);rw [show j / 2 * 2+j % 2=j by omega] at e4;rw [e4]
  have e5:acc.toArray[j / 2]! = acc.getD (j / 2) rn0:=by
   rw [getElem!_pos acc.toArray (j / 2) (by simp;omega)];simp [List.getD,show j / 2 < acc.length by omega]
  rw [e5]
  have:j % 2=0∨j % 2=1:=by omega
  rcases this with h | h <;> rw [h] <;> rfl
theorem zeh (ad:Addr) (n c:Nat) (D:List Rn) (w:World) (hS:aV w (some ad) n c D) :
  Calls Tryz.prog 151 #[.slice (some ad) n c] w fun e w'=>∃ ao c',e = .returned (.slice ao n c')/\dX w.heap.size w.heap.size w w' ao c' D:=by
 have HO:=hide (zeZ w);have HS:=hide (hS.below (ze w (.cells #[] 48)));have HB:=hS.big;have fJ:(binOp .eql 32 (.slice (some ad) n c) (.slice none 0 0)).run Tryz.prog w = .ok (.bool false) w:=Lib.run_eql_slice_some_nil w _ _ _ Tryz.underlying32;clear hS;go_enter Tryz.func151,Tryz.ntmps151;go_wp2_with (at_builtin;refine HO.appendS D (some ad) n c HS.out (by simp only [List.length_nil];omega) rfl (.tmp 5) (.tmp 6) rfl 0 rfl rfl rfl ?_;intro ao3 c3 w3 O3;rw [List.nil_append] at O3;have nN:=hide O3;clear O3);go_ret;exact ⟨ao3,c3,by simp,nN.out⟩
theorem zbJ (ao:Option Addr) (n c:Nat) (w:World) (hn:n < 2) :
  Calls Tryz.prog 154 #[.slice ao n c] w fun e w'=>e = .returned (.slice ao n c)/\w'=w:=by
 have h:(n:Int) < 2:=by omega
 go_enter Tryz.func154,Tryz.ntmps154;go_wp2_with fail;go_ret;exact ⟨rfl,rfl⟩
end
section
open Go.RowKit

def nrC (s:Sn) (d:Rn):Int:=or2 (az s.rep d.lo) (az s.hi d.hi)
theorem zay (s:Sn) (d:Rn):nrC s d < 0↔s.rep < d.lo∨(s.rep=d.lo/\s.hi < d.hi):=by
 unfold nrC or2 az;by_cases h1:s.rep < d.lo
 ·simp [h1]
 ·by_cases h2:d.lo < s.rep
  ·simp [h1,h2];omega
  ·have h3:s.rep=d.lo:=by omega
   by_cases h4:s.hi < d.hi
   ·simp [h3,h4]
   ·by_cases h5:d.hi < s.hi <;> simp [h3,h4,h5]
theorem ze7 (s:Sn) (d:Rn) (w:World):Calls Tryz.prog 187 #[SV s,RV d] w fun e w'=>e = .returned (.int .i64 (nrC s d))/\Below w.heap.size w w':=by
 have b1:=ze w (.cells (SC s) 104);have x1:=qJ w s;have s1:=World.size_alloc w (.cells (SC s) 104);obtain ⟨w1,cF⟩:∃ w1,w.alloc (.cells (SC s) 104)=w1:=⟨_,rfl⟩;obtain ⟨g1,cP⟩:∃ g1,w.heap.size=g1:=⟨_,rfl⟩;rw [cF] at b1 x1 s1;rw [cP] at x1 s1;have b2:=ze w1 (.cells (RC d) 48);have x2:=zQ w1 48 d;obtain ⟨w2,eH⟩:∃ w2,w1.alloc (.cells (RC d) 48)=w2:=⟨_,rfl⟩;rw [eH] at b2 x2;rw [s1] at x2;have HB:=hide (b1.trans (b2.mono b1.size));have HX:Hid (dC w2 g1 s/\Box w2 (g1+1) 48 d):=⟨x1.below b2,x2⟩
 have aB:Hid (∀ W,Below w2.heap.size w2 W -> W.cell? ⟨g1,0,none⟩=some (.int .i64 s.rep)/\W.cell? ⟨g1,2,none⟩=some (.int .i64 s.hi)/\W.cell? ⟨g1+1,0,none⟩=some (.int .i64 d.lo)/\W.cell? ⟨g1+1,1,none⟩=some (.int .i64 d.hi)):=fun W hW=>by
  obtain ⟨c0,-,c2⟩:=(HX.1.below hW).at
  have hd:=(HX.2.below hW).at
  exact ⟨c0,c2,hd.c0,hd.c1⟩
 obtain ⟨p,Hp⟩:∃ p,Hid (az s.rep d.lo=p):=⟨_,rfl⟩;obtain ⟨q,Hq⟩:∃ q,Hid (az s.hi d.hi=q):=⟨_,rfl⟩
 have HR:Hid (nrC s d=or2 p q):=by show _=_;unfold nrC;rw [Hp.out,Hq.out]
 clear b1 b2 x1 x2;go_enter Tryz.func187,Tryz.ntmps187;go_wp2_with fail;clear cF eH s1 cP;refine wp_region_held_drew (S:=fun W=>W.cell? ⟨g1,0,none⟩=some (.int .i64 s.rep)/\W.cell? ⟨g1,2,none⟩=some (.int .i64 s.hi)/\W.cell? ⟨g1+1,0,none⟩=some (.int .i64 d.lo)/\W.cell? ⟨g1+1,1,none⟩=some (.int .i64 d.hi)) (by kernel_rfl) (aB.out _ (zf w2)) (fun hHeld=>?_);refine wU 0 ?_;refine wU 1 ?_;refine wU 2 ?_;refine wU 3 ?_;refine wU 5 ?_;refine wU 6 ?_;refine wU 7 ?_;refine wU 8 ?_;refine wR 4 fun K hK=>?_;go_simp;go_wp2_with fail;refine (qC s.rep d.lo _).mono ?_;rintro e w' ⟨rfl,rfl⟩;rw [Hp.out];refine hK.out _ _ (aB.out _ (zf w2)) (fun hHeld=>?_);clear hK K;refine wR 9 fun K hK=>?_;go_simp
 go_wp2_with fail;refine (qC s.hi d.hi _).mono ?_;rintro e w' ⟨rfl,rfl⟩;rw [Hq.out];refine hK.out _ _ (aB.out _ (zf w2)) (fun hHeld=>?_);clear hK K;have aw:=hide ((zf w2).trans (ze w2.drew (.cells #[.int .i64 p,.int .i64 q] 3)));have HO:=hide (yv p q w2.drew w2.heap.size rfl);refine wR 10 fun K hK=>?_;go_simp;refine hK.out _ _ (aB.out _ aw) (fun hHeld=>?_);clear hK K;refine wR 11 fun K hK=>?_;go_simp;go_wp2_with fail;refine HO.mono ?_;rintro e w' ⟨rfl,rfl⟩;refine hK.out _ _ (aB.out _ aw) (fun hHeld=>?_);clear hK K;refine wU 12 ?_;refine wD ?_ _;clear hHeld;go_wp2_with fail;go_ret;exact ⟨zK HR.symm,HB.trans (aw.mono HB.size)⟩
end
section
open Go.RowKit
attribute [local go_sem ↓] x9 jv zY zX
attribute [local go_sem] xV qD xf
variable {w w' w2 W W' : World} {g : Nat}

def fK (L:List Sn) (d:Rn) (n i:Nat):Prop:=i <= n/\(∀ j,j < i -> nrC (L.getD j sn0) d < 0)/\(i < n -> 0 <= nrC (L.getD i sn0) d)
def BsA (w w':World) (e:Ending) (L:List Sn) (d:Rn) (n:Nat):Prop:=∃ (i:Nat) (b:Bool),e = .returned (.tuple #[.int .i64 (i:Int),.bool b])/\fK L d n i/\Below w.heap.size w w'
theorem ziW (ao:Option Addr) (n cap:Nat) (L:List Sn) (d:Rn) (w:World) (hS:cR w ao n cap L) (hm:∀ a b,a <= b -> b < n -> nrC (L.getD b sn0) d < 0 -> nrC (L.getD a sn0) d < 0) :
  Calls Tryz.prog 135 #[.slice ao n cap,RV d,.func (.func 187) #[] #[]] w fun e w'=>BsA w w' e L d n:=by
 have DL:∀ (args:Array Value) (w:World),(callFunc 187 args).run Tryz.prog w = .ok (.enter 187 args) w:=fun _ _=>rfl;have b1:=ze w (.cells (RC d) 48);have x1:=zQ w 48 d;obtain ⟨w1,cF⟩:∃ w1,w.alloc (.cells (RC d) 48)=w1:=⟨_,rfl⟩;obtain ⟨g1,cP⟩:∃ g1,w.heap.size=g1:=⟨_,rfl⟩;rw [cF] at b1 x1;rw [cP] at x1;have aM:=hide b1;have HX:Hid (Box w1 g1 48 d/\cR w1 ao n cap L):=⟨x1,hS.below b1⟩;have lL:n <= 5864062014805:=hS.big;have HM:=hide hm;clear b1 x1 hS hm;go_enter Tryz.func135,Tryz.ntmps135;go_wp2_with fail;clear cF cP;go_loopw [9,10] (fun a b wr=>∃ (lo hi:Nat),a = .int .i64 (lo:Int)/\b = .int .i64 (hi:Int)/\lo <= hi/\hi <= n/\Hid (Below w1.heap.size w1 wr/\(∀ j,j < lo -> nrC (L.getD j sn0) d < 0)/\(hi < n -> 0 <= nrC (L.getD hi sn0) d))) (fun a b _=>(intOf b).toNat - (intOf a).toNat)
 case atStart=>exact ⟨0,n,rfl,rfl,Nat.zero_le _,Nat.le_refl _,Below.refl _ _,(fun j hj=>by omega),fun h=>by omega⟩
 case round =>
  obtain ⟨lo,hi,rfl,rfl,FW,nq,HI⟩:=hrel
  rename World=>wr
  by_cases ak:lo < hi
  ·have aX:(lo:Int) < (hi:Int):=by omega
   obtain ⟨h,hh⟩:∃ h:Nat,(lo+hi) / 2=h:=⟨_,rfl⟩
   have p7:lo <= 5864062014805:=by omega
   have Fo:hi <= 5864062014805:=by omega
   obtain ⟨t,ht⟩:∃ t:Nat,lo+hi=t:=⟨_,rfl⟩
   have et:(lo:Int)+(hi:Int)=(t:Int):=by omega
   have e2:(t:Int) / 2=(h:Int):=by omega
   have e3:t / 2=h:=by omega
   have HH:Hid (lo <= h/\h < hi/\h < n):=⟨by omega,by omega,by omega⟩
   have E8:t <= 20000000000000:=by omega
   obtain ⟨ad,rfl,A0⟩:=(HX.2.below HI.1).at h HH.2.2;obtain ⟨s,Hs⟩:∃ s,Hid (L.getD h sn0=s):=⟨_,rfl⟩
   have aB:Hid (∀ W,Below wr.heap.size wr W -> (ldS (.pointer (some (ad.add (h * 3))))).run Tryz.prog W = .ok (SV s) W/\(ldD (.pointer (some ⟨g1,0,none⟩))).run Tryz.prog W = .ok (RV d) W):=fun W hW=>by
    obtain ⟨ad',e',A1⟩:=((HX.2.below HI.1).below hW).at h HH.2.2;obtain rfl:=Option.some.inj e';rw [Hs.out] at A1;exact ⟨qk A1,zG ((HX.1.below HI.1).below hW).at⟩
   have As:(h:Int) < (n:Int):=by have:=HH.out;omega
   clear A0 hh ht;go_upto_region 5 with fail;clear et e2 e3;refine wp_region_held_drew (S:=fun W=>(ldS (.pointer (some (ad.add (h * 3))))).run Tryz.prog W = .ok (SV s) W/\(ldD (.pointer (some ⟨g1,0,none⟩))).run Tryz.prog W = .ok (RV d) W) (by kernel_rfl) (aB.out _ (zf wr)) (fun hHeld=>?_);refine wU 0 ?_;refine wU 1 ?_;refine wU 2 ?_;refine wU 3 ?_;refine wU 4 ?_;refine wU 5 ?_;refine wR 6 fun K hK=>?_;go_simp;go_wp2_with fail;refine (ze7 s d _).mono ?_;rintro e w3 ⟨rfl,b3⟩;have eo:Below wr.heap.size wr w3:=(zf wr).trans b3;have aw:=hide (HI.1.trans (eo.mono HI.1.size));refine hK.out _ _ (aB.out _ eo) (fun hHeld=>?_);clear hK K b3 eo;obtain ⟨z,hz⟩:∃ z,nrC s d=z:=⟨_,rfl⟩;rw [hz];refine wU 7 ?_;refine wD ?_ _;clear hHeld
   by_cases cY:z < 0
   ·have HN:Hid (∀ j,j < h+1 -> nrC (L.getD j sn0) d < 0):=fun j hj=>HM.out j h (by omega) HH.2.2 (by rw [Hs.out,hz];exact cY);clear hz;go_wp2_with fail;go_roundw
    case rel=>exact ⟨h+1,hi,by simp,rfl,by have:=HH.out;omega,nq,aw.out,HN.out,HI.2.2⟩
    case measure=>simp [intOf];have:=HH.out;omega
   ·have HN:Hid (h < n -> 0 <= nrC (L.getD h sn0) d):=fun _=>by rw [Hs.out,hz];omega
    clear hz;go_wp2_with fail;go_roundw
    case rel=>exact ⟨lo,h,rfl,rfl,HH.1,by have:=HH.out;omega,aw.out,HI.2.1,HN.out⟩
    case measure=>simp [intOf];have:=HH.out;omega
  ·have aX:¬ (lo:Int) < (hi:Int):=by omega
   obtain rfl:lo=hi:=by omega
   have HF:Hid (fK L d n lo):=⟨nq,HI.2.1,HI.2.2⟩;have fU:=wTr aM HI.1;by_cases iv:lo < n
   ·have mf:(lo:Int) < (n:Int):=by omega
    obtain ⟨ad,rfl,A0⟩:=(HX.2.below HI.1).at lo iv;obtain ⟨s,Hs⟩:∃ s,Hid (L.getD lo sn0=s):=⟨_,rfl⟩
    have aB:Hid (∀ W,Below wr.heap.size wr W -> (ldS (.pointer (some (ad.add (lo * 3))))).run Tryz.prog W = .ok (SV s) W/\(ldD (.pointer (some ⟨g1,0,none⟩))).run Tryz.prog W = .ok (RV d) W):=fun W hW=>by
     obtain ⟨ad',e',A1⟩:=((HX.2.below HI.1).below hW).at lo iv;obtain rfl:=Option.some.inj e';rw [Hs.out] at A1;exact ⟨qk A1,zG ((HX.1.below HI.1).below hW).at⟩
    clear A0;go_upto_region 8 with fail;refine wp_region_held_drew (S:=fun W=>(ldS (.pointer (some (ad.add (lo * 3))))).run Tryz.prog W = .ok (SV s) W/\(ldD (.pointer (some ⟨g1,0,none⟩))).run Tryz.prog W = .ok (RV d) W) (by kernel_rfl) (aB.out _ (zf wr)) (fun hHeld=>?_);refine wU 0 ?_;refine wU 1 ?_;refine wU 2 ?_;refine wU 3 ?_;refine wU 4 ?_;refine wU 5 ?_;refine wU 6 ?_;refine wU 7 ?_;refine wU 8 ?_;refine wU 9 ?_;refine wU 10 ?_;refine wR 11 fun K hK=>?_;go_simp;go_wp2_with fail;refine (ze7 s d _).mono ?_;rintro e w3 ⟨rfl,b3⟩;have eo:Below wr.heap.size wr w3:=(zf wr).trans b3;have aw:=wTr fU eo;refine hK.out _ _ (aB.out _ eo) (fun hHeld=>?_);clear hK K b3 eo;obtain ⟨z,hz⟩:∃ z,nrC s d=z:=⟨_,rfl⟩;rw [hz];clear hz;refine wU 14 ?_;refine wU 12 ?_
    refine wU 13 ?_;refine wU 15 ?_;refine wD ?_ _;clear hHeld;go_wp2_with fail;go_ret2;exact ⟨lo,_,rfl,HF.out,aw.out⟩
   ·have mf:¬ (lo:Int) < (n:Int):=by omega
    go_upto_region 8 with fail;refine wp_region_held_drew (S:=fun _=>True) (by kernel_rfl) (trivial) (fun hHeld=>?_);refine wU 0 ?_;refine wU 1 ?_;refine wU 2 ?_;refine wU 3 ?_;refine wU 4 ?_;refine wV 5 ?_;refine wV 6 ?_;refine wV 7 ?_;refine wV 8 ?_;refine wV 9 ?_;refine wV 10 ?_;refine wV 11 ?_;refine wV 12 ?_;refine wU 14 ?_;refine wU 13 ?_;refine wU 15 ?_;refine wD ?_ _;clear hHeld;go_wp2_with fail;go_ret2;exact ⟨lo,_,rfl,HF.out,fU.trans ((zf wr).mono fU.size)⟩
end
section
open Go.RowKit
attribute [local go_sem ↓] zq zp zY zX
attribute [local go_sem] zi zk
variable {w w' w2 W W' : World} {g : Nat}

def NrA (w w':World) (e:Ending) (p:Pv) (d:Rn):Prop:=∃ (q:Pv) (i:Nat),e = .returned (PV q)/\am w' q/\fK p.P.cloud d p.cn i/\q.P=⟨p.P.vec,(p.P.cloud.drop i).take 1⟩/\Below w.heap.size w w'
theorem zcS {ad:Addr} {n c i:Nat} {L:List Sn} (h:cR w (some ad) n c L) (hi:i < n) (c':Nat) (hc:1 <= c'):cR w (some (ad.add (i * 3))) 1 c' ((L.drop i).take 1):=by
 have hl:=h.len;refine ⟨by rw [List.length_take,List.length_drop];omega,fun e=>(by cases e),fun ad' e t ht=>?_,by omega,hc⟩;obtain rfl:=Option.some.inj e
 obtain rfl:t=0:=by omega
 have A:=h.cell ad rfl i hi
 have e1:((L.drop i).take 1).getD 0 sn0=L.getD i sn0:=by
  rw [List.getD_eq_getElem?_getD,List.getElem?_take,if_pos (by omega),List.getElem?_drop,Nat.add_zero,List.getD_eq_getElem?_getD]
 rw [e1,Nat.zero_mul,add_zero];exact A
theorem jw {L:List Sn} {n c i:Nat} {ao:Option Addr} (hl:L.length=n) (hi:n <= i) (hn:ao=none -> c=0):cR w ao 0 c ((L.drop i).take 1):=by
 have e:(L.drop i).take 1=[]:=by rw [List.drop_eq_nil_of_le (by omega)];rfl
 rw [e];exact ⟨rfl,fun h=>⟨rfl,hn h⟩,fun ad h t ht=>(by omega),by omega,Nat.zero_le _⟩
theorem zgN (p:Pv) (d:Rn) (w:World) (hS:am w p) (hm:∀ a b,a <= b -> b < p.cn -> nrC (p.P.cloud.getD b sn0) d < 0 -> nrC (p.P.cloud.getD a sn0) d < 0):Calls Tryz.prog 146 #[PV p,RV d] w fun e w'=>NrA w w' e p d:=by
 have b1:=ze w (.cells (PC p) 26);have x1:=zm w p;have s1:=World.size_alloc w (.cells (PC p) 26);obtain ⟨w1,cF⟩:∃ w1,w.alloc (.cells (PC p) 26)=w1:=⟨_,rfl⟩;obtain ⟨g1,cP⟩:∃ g1,w.heap.size=g1:=⟨_,rfl⟩;rw [cF] at b1 x1 s1;rw [cP] at x1 s1;have b2:=ze w1 (.cells (RC d) 48);have x2:=zQ w1 48 d;have s2:=World.size_alloc w1 (.cells (RC d) 48);obtain ⟨w2,eH⟩:∃ w2,w1.alloc (.cells (RC d) 48)=w2:=⟨_,rfl⟩;rw [eH] at b2 x2 s2;rw [s1] at x2 s2;have b3:=ze w2 (.cells #[.slice none 0 0,.slice none 0 0] 26);have x3:av (w2.alloc (.cells #[.slice none 0 0,.slice none 0 0] 26)) w2.heap.size pv0:=zm w2 pv0;obtain ⟨w3,DR⟩:∃ w3,w2.alloc (.cells #[.slice none 0 0,.slice none 0 0] 26)=w3:=⟨_,rfl⟩;rw [DR] at b3 x3;rw [s2] at x3;have b13:=b1.trans ((b2.trans (b3.mono b2.size)).mono b1.size)
 have rv:=(x1.below b2).below b3;have HX:Hid (av w3 g1 p/\av w3 (g1+1+1) pv0/\am w3 p/\Below w.heap.size w w3/\w.heap.size=g1):=⟨rv,x3,hS.below b13,b13,cP⟩
 have ld:=zG (x2.below b3).at
 obtain ⟨y0,y1⟩:=rv.nums;have CU:=hide (ziW p.co p.cn p.cc p.P.cloud d w3 HX.2.2.1.cloud hm);have HS:=hide hS;clear b1 b2 b3 x1 x2 x3 b13 rv hS hm;go_enter Tryz.func146,Tryz.ntmps146;go_wp2_with fail;clear cF eH DR s1 s2 cP ld y0 y1;refine CU.mono ?_;rintro e w4 ⟨i,fb,rfl,hF,b4⟩;have HF:=hide hF;have ii:i <= p.cn:=hF.1;have lL:p.cn <= 5864062014805:=HX.2.2.1.cloud.big;have aI:=hide (HX.2.2.2.1.trans (b4.mono HX.2.2.2.1.size));have eE:Hid (av w4 g1 p/\av w4 (g1+1+1) pv0/\am w4 p):=⟨HX.1.below b4,HX.2.1.below b4,HX.2.2.1.below b4⟩
 have aB:Hid (∀ (W:World) co cn cc,W.heap[g1]? = w4.heap[g1]? -> p.co=co -> p.cn=cn -> p.cc=cc -> W.cell? ⟨g1,0,none⟩=some (.slice p.vo p.vn p.vc)/\W.cell? ⟨g1,1,none⟩=some (.slice co cn cc)):=fun W co cn cc hW h1 h2 h3=>by rw [<- h1,<- h2,<- h3];exact av.nums (show av W g1 p from hW.trans eE.1)
 have nT:Hid (∀ (q:Pv),am w q -> q.P=⟨p.P.vec,(p.P.cloud.drop i).take 1⟩ -> (stP (.pointer (some ⟨g1+1+1,0,none⟩)) (PV q)).run Tryz.prog w4.drew = .ok () (w4.drew.setRow (g1+1+1) (PC q))/\av (w4.drew.setRow (g1+1+1) (PC q)) (g1+1+1) q/\NrA w (w4.drew.setRow (g1+1+1) (PC q)) (.returned (PV q)) p d):=fun q hq hP=>by
  have hb:Below w.heap.size w (w4.drew.setRow (g1+1+1) (PC q)):=zh (aI.trans ((zf w4).mono aI.size)) (by have:=HX.2.2.2.2;omega);have hX:av w4.drew (g1+1+1) pv0:=eE.2.1.below (zf w4);exact ⟨qM (p':=q) hX,setRow_heap _ _ _ _ _ _ hX,q,i,rfl,hq.below hb,HF.out,hP,hb⟩
 obtain ⟨u,hu⟩:∃ u:Nat,i+1=u:=⟨_,rfl⟩
 have eu:(i:Int)+1=(u:Int):=by omega
 have ew:IntKind.i64.wrap (u:Int)=(u:Int):=by rw [IntKind.wrap_i64];omega
 clear hF b4 CU;by_cases ak:i < p.cn
 ·have emin:min (u:Int) (p.cn:Int)=(u:Int):=by omega
  obtain ⟨ad,hco,-⟩:=HS.cloud.at i ak;have mY:=HS.cloud.cap
  have Dq:¬ p.cc=i:=by omega
  have h1:(u:Int) <= (p.cc:Int):=by omega
  have h2:i <= u:=by omega
  have h3:u <= p.cc:=by omega
  obtain ⟨t8,x8,hE⟩:=nT.out ⟨p.vo,p.vn,p.vc,some (ad.add (i * 3)),u - i,p.cc - i,⟨p.P.vec,(p.P.cloud.drop i).take 1⟩⟩ ⟨HS.vec,by rw [show u - i=1 by omega];exact zcS (hco ▸ HS.cloud) ak (p.cc - i) (show 1 <= p.cc - i by omega),HS.big⟩ rfl;replace t8:(stP (.pointer (some ⟨g1+1+1,0,none⟩)) (.agg #[.slice p.vo p.vn p.vc,.slice (some (ad.add (i * 3))) (u - i) (p.cc - i)])).run Tryz.prog w4.drew = .ok () (w4.drew.setRow (g1+1+1) (PC ⟨p.vo,p.vn,p.vc,some (ad.add (i * 3)),u - i,p.cc - i,⟨p.P.vec,(p.P.cloud.drop i).take 1⟩⟩)):=t8;have gf:=hide x8;have HE:=hide hE;clear x8 hE;go_upto_region 2 with fail;refine wp_region_held_drew (S:=fun W=>W.cell? ⟨g1,0,none⟩=some (.slice p.vo p.vn p.vc)/\W.cell? ⟨g1,1,none⟩=some (.slice (some ad) p.cn p.cc)) (by kernel_rfl) (aB.out _ _ _ _ rfl hco rfl rfl) (fun hHeld=>?_);refine wU 0 ?_
  refine wU 1 ?_;refine wU 2 ?_;refine wU 3 ?_;refine wU 4 ?_;refine wU 5 ?_;refine wU 6 ?_;refine wU 7 ?_;refine wU 8 ?_;refine wU 9 ?_;refine wU 10 ?_;refine wpAnyH_take (i:=11) (oi:=⟨some 25,.slice 24 (.tmp 17) (some (.tmp 18)) (some (.tmp 24)) none,24, "picks.go:87",#[⟨3,.data⟩,⟨4,.data⟩,⟨10,.data⟩],none⟩) (v:=.slice (some (ad.add (i * 3))) (u - i) (p.cc - i)) rfl (by kernel_rfl) (by kernel_rfl) (by kernel_rfl) (fun _ _ _ h=>h) (Or.inl ⟨by rfl,?_⟩) (by assumption) ?_
  skip
  ·(intro w hSw;(try dsimp only at hSw);go_simp);first | done | with_reducible rfl
  simp only [Act.put,List.setIfInBounds_toArray,List.set_cons_zero,List.set_cons_succ];refine wU 12 ?_;refine wR 13 fun K hK=>?_;go_simp;refine hK.out _ _ (aB.out _ _ _ _ ?_ hco rfl rfl) (fun hHeld=>?_)
  ·exact setRow_other _ _ _ _ (by omega)
  clear hK K t8;refine wD ?_ _;clear hHeld;go_wp2_with fail;refine bodyPost_ret (eR rfl rfl gf) rfl ?_;exact HE.out
 ·obtain rfl:i=p.cn:=by omega
  have emin:min (u:Int) (p.cn:Int)=(p.cn:Int):=by omega
  have hl:=HS.cloud.len
  cases hco:p.co with
  | none =>
   obtain ⟨tO,DK⟩:=HS.cloud.nil hco
   have G0:(p.cn:Int)=0:=by omega
   have emin0:min (1:Int) 0=0:=by decide
   have ew1:IntKind.i64.wrap (1:Int)=1:=by rw [IntKind.wrap_i64];decide
   obtain ⟨t8,x8,hE⟩:=nT.out ⟨p.vo,p.vn,p.vc,none,0,0,⟨p.P.vec,(p.P.cloud.drop p.cn).take 1⟩⟩ ⟨HS.vec,jw hl (Nat.le_refl _) (fun _=>rfl),HS.big⟩ rfl;replace t8:(stP (.pointer (some ⟨g1+1+1,0,none⟩)) (.agg #[.slice p.vo p.vn p.vc,.slice none 0 0])).run Tryz.prog w4.drew = .ok () (w4.drew.setRow (g1+1+1) (PC ⟨p.vo,p.vn,p.vc,none,0,0,⟨p.P.vec,(p.P.cloud.drop p.cn).take 1⟩⟩)):=t8;have gf:=hide x8;have HE:=hide hE;clear x8 hE;go_upto_region 2 with fail;refine wp_region_held_drew (S:=fun W=>W.cell? ⟨g1,0,none⟩=some (.slice p.vo p.vn p.vc)/\W.cell? ⟨g1,1,none⟩=some (.slice none 0 0)) (by kernel_rfl) (aB.out _ _ _ _ rfl hco tO DK) (fun hHeld=>?_);refine wU 0 ?_;refine wU 1 ?_;refine wU 2 ?_;refine wU 3 ?_;refine wU 4 ?_;refine wU 5 ?_;refine wU 6 ?_;refine wU 7 ?_;refine wU 8 ?_;refine wU 9 ?_;refine wU 10 ?_
   refine wpAnyH_take (i:=11) (oi:=⟨some 25,.slice 24 (.tmp 17) (some (.tmp 18)) (some (.tmp 24)) none,24, "picks.go:87",#[⟨3,.data⟩,⟨4,.data⟩,⟨10,.data⟩],none⟩) (v:=.slice none 0 0) rfl (by kernel_rfl) (by kernel_rfl) (by kernel_rfl) (fun _ _ _ h=>h) (Or.inl ⟨by rfl,?_⟩) (by assumption) ?_
   skip
   ·(intro w hSw;(try dsimp only at hSw);go_simp);first | done | with_reducible rfl
   simp only [Act.put,List.setIfInBounds_toArray,List.set_cons_zero,List.set_cons_succ];refine wU 12 ?_;refine wR 13 fun K hK=>?_;go_simp;refine hK.out _ _ (aB.out _ _ _ _ ?_ hco tO DK) (fun hHeld=>?_)
   ·exact setRow_other _ _ _ _ (by omega)
   clear hK K t8;refine wD ?_ _;clear hHeld;go_wp2_with fail;refine bodyPost_ret (eR rfl rfl gf) rfl ?_;exact HE.out
  | some ad =>
   have mY:=HS.cloud.cap;by_cases hcc:p.cc=p.cn
   ·obtain ⟨t8,x8,hE⟩:=nT.out ⟨p.vo,p.vn,p.vc,some ad,0,0,⟨p.P.vec,(p.P.cloud.drop p.cn).take 1⟩⟩ ⟨HS.vec,jw hl (Nat.le_refl _) (fun h=>by cases h),HS.big⟩ rfl;replace t8:(stP (.pointer (some ⟨g1+1+1,0,none⟩)) (.agg #[.slice p.vo p.vn p.vc,.slice (some ad) 0 0])).run Tryz.prog w4.drew = .ok () (w4.drew.setRow (g1+1+1) (PC ⟨p.vo,p.vn,p.vc,some ad,0,0,⟨p.P.vec,(p.P.cloud.drop p.cn).take 1⟩⟩)):=t8;have gf:=hide x8;have HE:=hide hE;clear x8 hE;go_upto_region 2 with fail;refine wp_region_held_drew (S:=fun W=>W.cell? ⟨g1,0,none⟩=some (.slice p.vo p.vn p.vc)/\W.cell? ⟨g1,1,none⟩=some (.slice (some ad) p.cn p.cn)) (by kernel_rfl) (aB.out _ _ _ _ rfl hco rfl hcc) (fun hHeld=>?_);refine wU 0 ?_;refine wU 1 ?_;refine wU 2 ?_;refine wU 3 ?_;refine wU 4 ?_;refine wU 5 ?_;refine wU 6 ?_;refine wU 7 ?_;refine wU 8 ?_
    refine wU 9 ?_;refine wU 10 ?_;refine wpAnyH_take (i:=11) (oi:=⟨some 25,.slice 24 (.tmp 17) (some (.tmp 18)) (some (.tmp 24)) none,24, "picks.go:87",#[⟨3,.data⟩,⟨4,.data⟩,⟨10,.data⟩],none⟩) (v:=.slice (some ad) 0 0) rfl (by kernel_rfl) (by kernel_rfl) (by kernel_rfl) (fun _ _ _ h=>h) (Or.inl ⟨by rfl,?_⟩) (by assumption) ?_
    skip
    ·(intro w hSw;(try dsimp only at hSw);go_simp);first | done | with_reducible rfl
    simp only [Act.put,List.setIfInBounds_toArray,List.set_cons_zero,List.set_cons_succ];refine wU 12 ?_;refine wR 13 fun K hK=>?_;go_simp;refine hK.out _ _ (aB.out _ _ _ _ ?_ hco rfl hcc) (fun hHeld=>?_)
    ·exact setRow_other _ _ _ _ (by omega)
    clear hK K t8;refine wD ?_ _;clear hHeld;go_wp2_with fail;refine bodyPost_ret (eR rfl rfl gf) rfl ?_;exact HE.out
   ·obtain ⟨t8,x8,hE⟩:=nT.out ⟨p.vo,p.vn,p.vc,some (ad.add (p.cn * 3)),0,p.cc - p.cn,⟨p.P.vec,(p.P.cloud.drop p.cn).take 1⟩⟩ ⟨HS.vec,jw hl (Nat.le_refl _) (fun h=>by cases h),HS.big⟩ rfl;replace t8:(stP (.pointer (some ⟨g1+1+1,0,none⟩)) (.agg #[.slice p.vo p.vn p.vc,.slice (some (ad.add (p.cn * 3))) 0 (p.cc - p.cn)])).run Tryz.prog w4.drew = .ok () (w4.drew.setRow (g1+1+1) (PC ⟨p.vo,p.vn,p.vc,some (ad.add (p.cn * 3)),0,p.cc - p.cn,⟨p.P.vec,(p.P.cloud.drop p.cn).take 1⟩⟩)):=t8;have gf:=hide x8;have HE:=hide hE;clear x8 hE;go_upto_region 2 with fail;refine wp_region_held_drew (S:=fun W=>W.cell? ⟨g1,0,none⟩=some (.slice p.vo p.vn p.vc)/\W.cell? ⟨g1,1,none⟩=some (.slice (some ad) p.cn p.cc)) (by kernel_rfl) (aB.out _ _ _ _ rfl hco rfl rfl) (fun hHeld=>?_);refine wU 0 ?_;refine wU 1 ?_;refine wU 2 ?_;refine wU 3 ?_
    refine wU 4 ?_;refine wU 5 ?_;refine wU 6 ?_;refine wU 7 ?_;refine wU 8 ?_;refine wU 9 ?_;refine wU 10 ?_;refine wpAnyH_take (i:=11) (oi:=⟨some 25,.slice 24 (.tmp 17) (some (.tmp 18)) (some (.tmp 24)) none,24, "picks.go:87",#[⟨3,.data⟩,⟨4,.data⟩,⟨10,.data⟩],none⟩) (v:=.slice (some (ad.add (p.cn * 3))) 0 (p.cc - p.cn)) rfl (by kernel_rfl) (by kernel_rfl) (by kernel_rfl) (fun _ _ _ h=>h) (Or.inl ⟨by rfl,?_⟩) (by assumption) ?_
    skip
    ·(intro w hSw;(try dsimp only at hSw);go_simp);first | done | with_reducible rfl
    simp only [Act.put,List.setIfInBounds_toArray,List.set_cons_zero,List.set_cons_succ];refine wU 12 ?_;refine wR 13 fun K hK=>?_;go_simp;refine hK.out _ _ (aB.out _ _ _ _ ?_ hco rfl rfl) (fun hHeld=>?_)
    ·exact setRow_other _ _ _ _ (by omega)
    clear hK K t8;refine wD ?_ _;clear hHeld;go_wp2_with fail;refine bodyPost_ret (eR rfl rfl gf) rfl ?_;exact HE.out
end
end Go.Proofs.YtjffpimfngdggaaGreat
namespace Go.Proofs.YtjffpimfngdggaaGreat.K
section
open Go.RowKit
attribute [local go_sem ↓] zy zx
attribute [local go_sem] zJ zu
def DC (e:En):Array Value:=#[.int .i64 e.rep,.int .i64 e.num]
def lS (v:Value):Sem Value:=Instr.loadAt 48 v
theorem xG (v:Value):Instr.loadAt 48 v=lS v:=rfl
attribute [local go_sem ↓] xG
theorem mt:(Tryz.prog.info? 48).map (·.size)=some 2:=by kernel_rfl
theorem xK {w:World} {p:Addr} {e:En} (A:gE w p e):(lS (.pointer (some p))).run Tryz.prog w = .ok (.agg (DC e)) w:=by
 have hl:=run_loadCells_list (P:=Tryz.prog) (w:=w) p (DC e).toList (fun j v hv=>by
  match j,hv with
  | 0,hv=>cases hv;rw [add_zero];exact A.c0
  | 1,hv=>cases hv;exact A.c1
  | j+2,hv=>simp [DC] at hv)
 unfold lS;simp only [Instr.loadAt,Instr.sureAddr,Sem.run_bind,Sem.run_pure,Result.andThen]
 cases hq:Tryz.prog.info? 48 with
 | none=>have:=mt;simp [hq] at this
 | some x =>
  have hs:x.size=2:=by have:=mt;simpa [hq] using this
  have ex:(isAgg 48).run Tryz.prog w = .ok true w:=by
   unfold isAgg;rw [Sem.run_bind,run_underlying Tryz.underlying48 w];rfl
  have e4:(DC e).toList.length=2:=rfl;rw [e4] at hl;simp [loadVar,Sem.run_bind,ex,sizeOf,typeInfo,hq,hs,hl]

end
section
open Go.RowKit

abbrev bA:ByteArray:=⟨#[65]⟩
abbrev bB:ByteArray:=⟨#[66]⟩
def LR:List En:=[⟨0,3,bA,5⟩,⟨1,1,bB,2⟩,⟨1,4,bA,1⟩]
def oH (w w':World) (e:Ending) (L:List En):Prop:=∃ ao n c,e = .returned (.slice ao n c)/\aD w' ao n c L/\Below w.heap.size w w'/\∀ ad,ao=some ad -> w.heap.size <= ad.block
end
section
open Go.RowKit

def ecs (L:List En):List Value:=(L.map (fun e=>(EC e).toList)).flatten
theorem bv (L R:List En):ecs (L++R)=ecs L++ecs R:=by simp [ecs]
theorem ziF (e:En):ecs [e]=(EC e).toList:=by simp [ecs]
theorem jz (L:List En):(ecs L).length=L.length * 4:=by
 induction L with
 | nil=>rfl
 | cons a L ih=>have:ecs (a :: L)=(EC a).toList++ecs L:=rfl;rw [this,List.length_append,ih];simp [EC];omega
theorem zds (L:List En) (t j:Nat) (ht:t < L.length) (hj:j < 4):(ecs L)[t * 4+j]? = (EC (L.getD t en0)).toList[j]?:=by
 induction L generalizing t with
 | nil=>simp at ht
 | cons a L ih =>
  have e:ecs (a :: L)=(EC a).toList++ecs L:=rfl
  cases t with
  | zero=>rw [e,List.getElem?_append_left (by simp [EC];omega)];simp [List.getD]
  | succ t =>
   rw [e,List.getElem?_append_right (by simp [EC];omega)];have h:=ih t (by simpa using ht)
   have e4:(t+1) * 4+j - (EC a).toList.length=t * 4+j:=by simp [EC];omega
   rw [e4,h];simp [List.getD]
theorem mw:(Tryz.prog.info? 50).map (fun i=>(i.zero,i.size,i.bytes))=some (some (.agg #[.int .i64 0,.int .i64 0,.string ⟨#[]⟩,.int .i64 0]),4,40):=by kernel_rfl

structure dP (B0 B:Nat) (w w':World) (ao:Option Addr) (cap:Nat) (acc:List En):Prop where
 own:w'.ownsRow B 50 4 (.slice ao acc.length cap) acc.length (ecs acc)
 below:Below B0 w w'
 hB:B <= w'.heap.size
 hB0:B0 <= B
theorem dP.nil {B0 B:Nat} {w w':World} (hb:Below B0 w w') (hB:B <= w'.heap.size) (h0:B0 <= B):dP B0 B w w' none 0 []:=
 ⟨World.ownsRow_nil _ _ _ _,hb,hB,h0⟩
theorem dP.append {B0 B:Nat} {w w':World} {ao:Option Addr} {cap:Nat} {acc:List En} (O:dP B0 B w w' ao cap acc) (e:En) (C:Array Value) (hC:C=EC e) (cJ:acc.length < 3518437208883)
  {ops:Array Oper} {rest:List Oper} {o:Oper} {a:Act} {Q:Exit -> Act -> World -> Prop} (hgd:o.guard=none) (s x:Operand) (ho:o.op = .call { callee:=.builtin .append,args:=#[s,x],argTypes:=#[22,22] })
  (n:Nat) (hn:acc.length=n) (hs:a.eval s = .slice ao n cap) (hx:a.eval x = .slice (some ⟨w'.heap.size,0,none⟩) 1 1)
  (hK:∀ (g cap2:Nat) (w2:World),dP B0 B w w2 (some ⟨g,0,none⟩) cap2 (acc++[e]) -> (∀ k,k < B -> w2.heap[k]? = w'.heap[k]?) -> wpList Tryz.prog ops Q rest (a.put o.dst (.slice (some ⟨g,0,none⟩) (n+1) cap2)) w2) :
  wpList Tryz.prog ops Q (o :: rest) a (w'.alloc (.cells C 50)):=by
 subst hn hC;obtain ⟨i0,hi,cY,dw,eI⟩:=info_parts mw;have hB:=O.hB;have hB0:=O.hB0;refine wpList_append_own _ hgd s x 22 ho B 50 i0 (.agg #[.int .i64 0,.int .i64 0,.string ⟨#[]⟩,.int .i64 0]) 4 40 Tryz.underlying22 hi cY dw eI rfl (by decide) _ acc.length (ecs acc) hs (O.own.alloc _) ⟨w'.heap.size,0,none⟩ 1 1 (EC e).toList hx (by simp [EC]) ?_ ?_ (by unfold maxLen;omega) (by omega) (by simp;omega) ?_
 ·intro j u hj;rw [Addr.add_lit,Nat.zero_add,World.cell?_alloc_new];simpa using hj
 ·intro u hu;exact bO e u hu
 ·intro v' w2 a7 aC _;rcases a7.2 with ⟨h0,fV⟩ | ⟨g,cap2,cur,hv,dU,dx,hnc,fS,hcsz,htake⟩
  ·omega
  ·subst hv;have dH:∀ k,(Value.slice ao acc.length cap).ownBlock=some k -> B <= k:=fun k hk=>(O.own.lt k hk).1;have dE:=aC.size;rw [World.size_alloc] at dE;refine hK g cap2 w2 ⟨?_,(O.below.alloc (by omega) _).grown aC (by simp;omega) (fun k hk=>by have:=dH k hk;omega),by omega,hB0⟩ (fun k hk=>?_)
   ·rw [List.length_append,bv,ziF];exact a7
   ·rw [aC.block k (by simp;omega) (fun e=>by have:=dH k e.symm;omega)];exact Below.heap_alloc _ _ _ (by omega)
theorem dP.later {B0 B:Nat} {w w' w2:World} {ao:Option Addr} {cap:Nat} {acc:List En} (O:dP B0 B w w' ao cap acc) (hb:Below w'.heap.size w' w2):dP B0 B w w2 ao cap acc:=by
 refine ⟨⟨O.own.1,?_⟩,O.below.trans (hb.mono (Nat.le_trans O.hB0 O.hB)),Nat.le_trans O.hB hb.size,O.hB0⟩;rcases O.own.2 with h | ⟨g,cap2,cur,hv,dU,dx,r⟩
 ·exact Or.inl h
 ·exact Or.inr ⟨g,cap2,cur,hv,dU,(hb.block g (Array.getElem?_eq_some_iff.1 dx).1).trans dx,r⟩
theorem dP.src {B0 B:Nat} {w w':World} {ao:Option Addr} {cap:Nat} {acc:List En} (O:dP B0 B w w' ao cap acc) (hs:∀ e∈acc,e.sku.size <= maxLen) (hl:acc.length <= 3518437208883):aD w' ao acc.length cap acc/\∀ ad,ao=some ad -> B <= ad.block:=by
 rcases O.own.2 with ⟨h0,fV⟩ | ⟨g,cap2,cur,hv,dU,dx,hnc,fS,hcsz,htake⟩
 ·simp only [Value.slice.injEq] at h0;obtain ⟨rfl,e0,rfl⟩:=h0;exact ⟨⟨rfl,fun _=>⟨fV,rfl⟩,fun ad h=>(by cases h),hs,hl⟩,fun ad h=>(by cases h)⟩
 ·simp only [Value.slice.injEq,true_and] at hv;obtain ⟨rfl,rfl⟩:=hv
  have cell:∀ t j,t < acc.length -> j < 4 -> w'.cell? ⟨g,t * 4+j,none⟩=(EC (acc.getD t en0)).toList[j]?:=fun t j ht hj=>by
   rw [O.own.cellAt (t * 4+j) (by omega),zds _ t j ht hj]
  refine ⟨⟨rfl,fun h=>(by cases h),fun ad h t ht=>?_,hs,hl⟩,fun ad h=>by obtain rfl:=Option.some.inj h;exact dU⟩;obtain rfl:=Option.some.inj h;refine ⟨?_,?_,?_,?_⟩
  ·rw [Addr.add_lit,Nat.zero_add];exact cell t 0 ht (by omega)
  ·rw [Addr.add_lit,Addr.add_lit,Nat.zero_add];exact cell t 1 ht (by omega)
  ·rw [Addr.add_lit,Addr.add_lit,Nat.zero_add];exact cell t 2 ht (by omega)
  ·rw [Addr.add_lit,Addr.add_lit,Nat.zero_add];exact cell t 3 ht (by omega)
end
end Go.Proofs.YtjffpimfngdggaaGreat.K
