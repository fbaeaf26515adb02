/- PSd ONa OBs -/
import Derived.Test.YtjffpimfngdggaaGreatTk
import Derived.Test.YtjffpimfngdggaaGreatFs16
import Derived.Test.YtjffpimfngdggaaGreatFs13
import Derived.Test.YtjffpimfngdggaaGreatFs10
import Derived.Lib.BufferMore
import Derived.Test.YtjffpimfngdggaaGreatFs00
import Derived.Deep.CutRange
set_option maxRecDepth 100000
set_option maxHeartbeats 3200000
namespace Go.Proofs.YtjffpimfngdggaaGreat
section
open Go.RowKit Go.Sort

def or2 (a b:Int):Int:=if a=0 then b else a
theorem zh4 (g:Nat) (a b:Int) (w:World) (c0:w.cell? ⟨g,0,none⟩=some (.int .i64 a)) (c1:w.cell? ⟨g,1,none⟩=some (.int .i64 b)) :
  Calls Tryz.prog 137 #[.slice (some ⟨g,0,none⟩) 2 2] w fun e w'=>e = .returned (.int .i64 (or2 a b))/\w'=w:=by
 go_enter Tryz.func137,Tryz.ntmps137;go_wp2;go_loop [8] (fun i=>∃ k:Nat,k <= 2/\i = .int .i64 k/\Hid (0 < k -> a=0)/\Hid (1 < k -> b=0)) (fun i=>2 - (intOf i).toNat)
 case atStart=>exact ⟨0,Nat.zero_le _,rfl,fun h=>absurd h (by omega),fun h=>absurd h (by omega)⟩
 case round =>
  obtain ⟨k,hk,rfl,Ha,Hb⟩:=hrel;by_cases hlt:k < 2
  ·obtain ⟨z,hcell,Hz⟩:∃ z,w.cell? ⟨g,k,none⟩=some (.int .i64 z)/\Hid (or2 a b=if z=0/\k=0 then b else z):=by
    match k,hlt,Ha with
    | 0,_,_=>exact ⟨a,c0,by show _=_;unfold or2;by_cases h:a=0 <;> simp [h]⟩
    | 1,_,Ha=>exact ⟨b,c1,by show _=_;unfold or2;rw [if_pos (Ha.out (by omega))];simp⟩
   have Hz0:Hid (z=0 -> (k=0 -> a=0)/\(k=1 -> b=0)):=by
    intro hz;constructor
    ·intro h;subst h;rw [c0] at hcell;simpa [hz] using hcell
    ·intro h;subst h;rw [c1] at hcell;simpa [hz] using hcell
   clear c0 c1;by_cases h0:z=0
   ·have hA:=(Hz0.out h0).1;have hB:=(Hz0.out h0).2
    have HA:Hid (0 < k+1 -> a=0):=by intro _;by_cases hk0:k=0;exact hA hk0;exact Ha.out (by omega)
    have HB:Hid (1 < k+1 -> b=0):=by intro _;exact hB (by omega)
    have h0':(z != 0)=false:=by simpa using h0
    clear h0 hA hB;go_wp2;go_round
    case rel=>exact ⟨k+1,by omega,by go_num,HA,HB⟩
    case measure=>simp [intOf];omega
   ·have h0':(z != 0)=true:=by simpa using h0
    have HF:Hid (or2 a b=z):=by show _=_;rw [Hz.out,if_neg (by simp [h0])]
    clear h0;go_wp2;go_ret;exact ⟨zG HF.out.symm,rfl⟩
  ·have HF:Hid (or2 a b=0):=by show _=_;unfold or2;rw [if_pos (Ha.out (by omega))];exact Hb.out (by omega)
   clear c0 c1;go_wp2;go_ret;exact ⟨zG HF.out.symm,rfl⟩
def byD (x y:Rn):Int:=or2 (cmpI x.lo y.lo) (cmpI x.hi y.hi)
def aheadD (x y:Rn):Bool:=decide (x.lo < y.lo) || (x.lo == y.lo && decide (x.hi < y.hi))
theorem wg (x y:Rn):ltOf byD x y=aheadD x y:=by
 unfold ltOf byD or2 cmpI aheadD;by_cases h1:x.lo < y.lo
 ·simp [h1]
 ·by_cases h2:y.lo < x.lo
  ·have:¬ x.lo=y.lo:=by omega
   simp [h1,h2,this]
  ·have e:x.lo=y.lo:=by omega
   by_cases h3:x.hi < y.hi
   ·simp [e,h3]
   ·by_cases h4:y.hi < x.hi <;> simp [e,h3,h4]
theorem zck:SWO (ltOf byD) where
 irrefl x:=by rw [wg];simp [aheadD]
 trans x y z h1 h2:=by rw [wg] at *;simp [aheadD] at *;omega
 ntrans x y z h1 h2:=by rw [wg] at *;simp [aheadD] at *;omega
theorem zb7 (w:World) (a b c:Obj):Grew w (((w.alloc a).alloc b).drew.alloc c):=by
 refine ⟨1,#[a]++#[b]++#[c],?_⟩;rw [alloc_eq_grow ((w.alloc a).alloc b).drew c,alloc_eq_grow (w.alloc a) b,alloc_eq_grow w a,grow_grow,drew_grow,grow_grow];rfl
structure TwoD (w W:World) (x y:Rn):Prop where
 below:Below w.heap.size w W
 size:w.heap.size+2 <= W.heap.size
 a0:W.cell? ⟨w.heap.size,0,none⟩=some (.int .i64 x.lo)
 a1:W.cell? ⟨w.heap.size,1,none⟩=some (.int .i64 x.hi)
 b0:W.cell? ⟨w.heap.size+1,0,none⟩=some (.int .i64 y.lo)
 b1:W.cell? ⟨w.heap.size+1,1,none⟩=some (.int .i64 y.hi)
theorem TwoD.start (w:World) (x y:Rn):TwoD w ((w.alloc (.cells #[.int .i64 x.lo,.int .i64 x.hi] 48)).alloc (.cells #[.int .i64 y.lo,.int .i64 y.hi] 48)) x y:=
 ⟨(ze w _).trans ((ze _ _).mono (by simp)),by simp,by simp,by simp,by simp,by simp⟩
theorem TwoD.on {w W W':World} {x y:Rn} (h:TwoD w W x y) (hb:Below W.heap.size W W'):TwoD w W' x y:=
 ⟨h.below.trans (hb.mono h.below.size),Nat.le_trans h.size hb.size,(hb.cell (World.block_lt_of_cell? _ _ h.a0)).trans h.a0,(hb.cell (World.block_lt_of_cell? _ _ h.a1)).trans h.a1,(hb.cell (World.block_lt_of_cell? _ _ h.b0)).trans h.b0,(hb.cell (World.block_lt_of_cell? _ _ h.b1)).trans h.b1⟩
theorem zaa (a b:Int) (w:World) (g:Nat) (hg:w.heap.size=g):Calls Tryz.prog 137 #[.slice (some ⟨g,0,none⟩) 2 2] (w.alloc (.cells #[.int .i64 a,.int .i64 b] 3)) fun e w'=>e = .returned (.int .i64 (or2 a b))/\w'=w.alloc (.cells #[.int .i64 a,.int .i64 b] 3):=by
 subst hg;exact zh4 w.heap.size a b _ (by simp) (by simp)
theorem zaH (x y:Rn) (w:World):Calls Tryz.prog 153 #[.agg #[.int .i64 x.lo,.int .i64 x.hi],.agg #[.int .i64 y.lo,.int .i64 y.hi]] w fun e w'=>e = .returned (.int .i64 (byD x y))/\Grew w w':=by
 have T0:=hide (TwoD.start w x y);obtain ⟨w0,Hw0⟩:∃ w0,Hid ((w.alloc (.cells #[.int .i64 x.lo,.int .i64 x.hi] 48)).alloc (.cells #[.int .i64 y.lo,.int .i64 y.hi] 48)=w0):=⟨_,rfl⟩;rw [Hw0.out] at T0;have c1:=T0.out.a0;have c2:=T0.out.a1;have c3:=T0.out.b0;have c4:=T0.out.b1;obtain ⟨p,Hp⟩:∃ p,Hid (cmpI x.lo y.lo=p):=⟨_,rfl⟩;obtain ⟨q,Hq⟩:∃ q,Hid (cmpI x.hi y.hi=q):=⟨_,rfl⟩
 have C1:Hid (∀ W,Calls Tryz.prog 138 #[.int .i64 x.lo,.int .i64 y.lo] W fun e w'=>e = .returned (.int .i64 p)/\w'=W):=fun W=>by rw [<- Hp.out];exact qK _ _ W
 have C2:Hid (∀ W,Calls Tryz.prog 138 #[.int .i64 x.hi,.int .i64 y.hi] W fun e w'=>e = .returned (.int .i64 q)/\w'=W):=fun W=>by rw [<- Hq.out];exact qK _ _ W
 have HF:Hid (or2 p q=byD x y):=by show _=_;unfold byD;rw [Hp.out,Hq.out]
 have T1:Hid (TwoD w (w0.drew.alloc (.cells #[.int .i64 p,.int .i64 q] 3)) x y):=(T0.out.on (zf _)).on (ze _ _);have HO:=hide (zaa p q w0.drew w0.heap.size rfl)
 have HG:Hid (Grew w (w0.drew.alloc (.cells #[.int .i64 p,.int .i64 q] 3))):=by rw [<- Hw0.out];exact zb7 _ _ _ _
 obtain ⟨r,m⟩:=x;obtain ⟨r',m'⟩:=y;go_enter Tryz.func153,Tryz.ntmps153;go_wp2_with fail;rw [Hw0.out]
 first | (go_region_held (fun W=>W.cell? ⟨w.heap.size,0,none⟩=some (.int .i64 r)/\W.cell? ⟨w.heap.size,1,none⟩=some (.int .i64 m)/\W.cell? ⟨w.heap.size+1,0,none⟩=some (.int .i64 r')/\W.cell? ⟨w.heap.size+1,1,none⟩=some (.int .i64 m')) (first | exact ⟨T1.out.a0,T1.out.a1,T1.out.b0,T1.out.b1⟩ | go_keep) (first | (go_at_call_of 138 r;refine (C1.out _).mono ?_;rintro e w' ⟨rfl,rfl⟩) | (go_at_call_of 138 m;refine (C2.out _).mono ?_;rintro e w' ⟨rfl,rfl⟩) | (go_at_call 137;refine HO.out.mono ?_;rintro e w' ⟨rfl,rfl⟩))) | fail
 all_goals (go_wp2_with fail)
 all_goals go_ret
 all_goals exact ⟨zG HF.out,HG.out⟩
theorem cmpLaysD (blk size:Nat) (w:World):CmpLays Tryz.prog 153 #[] encR 2 byD blk 0 size w:=
 fun _ _ _ _ x y=>zaH x y _
theorem zeh (ad:Addr) (cap n:Nat) (d:Array Rn) (w:World) (M:MR w ad d) (hn:d.size=n) (hb:n <= 8796093022207) :
  Calls Tryz.prog 152 #[.slice (some ad) n cap,.func (.func 153) #[] #[]] w fun e w'=>e = .returned (.tuple #[])/\∃ d',d'.toList.Perm d.toList/\d'.size=n/\MR w' ad d'/\Below ad.block w w':=by
 subst hn;have eg:∀ args w,(callFunc 153 args).run Tryz.prog w = .ok (.enter 153 args) w:=enters_of Tryz.func153 (by kernel_rfl) rfl;have h:=AnyQ.slices_SortFunc Tryz.sortD 2 Tryz.isAgg48 Tryz.sizeOf48 encR (fun _=>rfl) (fun x v hv=>jY x v hv) byD zck 153 #[] ad.block 0 cap d w eg (cmpLaysD ad.block d.size w) M.hk M.lt (by omega);rw [<- M.ha] at h;refine Calls.mono h ?_;rintro e w' ⟨rfl,d',m,os,⟨hs,_,hp⟩,_,rfl⟩;refine ⟨rfl,d',?_,hs,⟨holdsK_sortWorldK_c encR 2 w ad.block 0 d d' m os M.hk M.lt hs,?_,M.ha⟩,?_⟩
 ·have e1:d'.extract 0 d.size=d':=by rw [<- hs];simp
  have e2:d.extract 0 d.size=d:=by simp
  rwa [e1,e2] at hp
 ·have:=M.lt
  show ad.block < ((putRow id (Sort.ahead w m) ad.block 0 (flatK encR 2 d')).heap++os).size
  rw [Array.size_append,size_putRow]
  show ad.block < w.heap.size+os.size
  omega
 ·have h1:Below ad.block w (putRow id (Sort.ahead w m) ad.block 0 (flatK encR 2 d')):=Lib.below_putRow (Below.refl _ _) (Nat.le_refl _);refine h1.trans ?_
  have hsz:ad.block <= (putRow id (Sort.ahead w m) ad.block 0 (flatK encR 2 d')).heap.size:=by rw [size_putRow];exact Nat.le_of_lt M.lt
  show Below ad.block _ (grow (putRow id (Sort.ahead w m) ad.block 0 (flatK encR 2 d')) os)
  generalize putRow id (Sort.ahead w m) ad.block 0 (flatK encR 2 d')=V at hsz;exact ⟨rfl,rfl,rfl,by show _ <= (V.heap++os).size;rw [Array.size_append];omega,fun k hk=>by show (V.heap++os)[k]? = _;rw [Array.getElem?_append_left (by omega)]⟩
theorem OwnD.mr {B0 B:Nat} {w w':World} {ad:Addr} {cap:Nat} {acc:List Rn} (O:OwnD B0 B w w' (some ad) cap acc):MR w' ad acc.toArray/\B <= ad.block/\acc.length <= cap/\cap <= maxLen:=by
 rcases O.own.2 with ⟨h0,_⟩ | ⟨g,c,cur,hv,hbg,hgg,hnc,hcm,hcsz,htake⟩
 ·cases h0
 ·simp only [Value.slice.injEq,Option.some.injEq,true_and] at hv;obtain ⟨rfl,rfl⟩:=hv;refine ⟨⟨fun j hj=>?_,(Array.getElem?_eq_some_iff.1 hgg).1,rfl⟩,hbg,hnc,hcm⟩;rw [Sort.size_flatK] at hj
  have hj':j < acc.length * 2:=by simpa using hj
  refine ⟨?_,by simp [World.frozen?,hgg]⟩;rw [Nat.zero_add,O.own.cellAt j (by omega),Sort.get_flatK _ _ _ _ hj];have e4:=yh acc (j / 2) (j % 2) (by omega) (by omega);rw [show j / 2 * 2+j % 2=j by omega] at e4;rw [e4]
  have e5:acc.toArray[j / 2]! = acc.getD (j / 2) rn0:=by
   rw [getElem!_pos acc.toArray (j / 2) (by simp;omega)];simp [List.getD,show j / 2 < acc.length by omega]
  rw [e5]
  have:j % 2=0∨j % 2=1:=by omega
  rcases this with h | h <;> rw [h] <;> rfl
theorem zdV (ad:Addr) (n c:Nat) (D:List Rn) (w:World) (hS:RSrc w (some ad) n c D) :
  Calls Tryz.prog 151 #[.slice (some ad) n c] w fun e w'=>∃ ao c',e = .returned (.slice ao n c')/\OwnD w.heap.size w.heap.size w w' ao c' D:=by
 have HO:=hide (zeD w);have HS:=hide (hS.below (ze w (.cells #[] 48)));have HB:=hS.big;have hnil:(binOp .eql 32 (.slice (some ad) n c) (.slice none 0 0)).run Tryz.prog w = .ok (.bool false) w:=Lib.run_eql_slice_some_nil w _ _ _ Tryz.underlying32;clear hS;go_enter Tryz.func151,Tryz.ntmps151;go_wp2_with (at_builtin;refine HO.out.appendS D (some ad) n c HS.out (by simp only [List.length_nil];omega) rfl (.tmp 5) (.tmp 6) rfl 0 rfl rfl rfl ?_;intro ao3 c3 w3 O3;rw [List.nil_append] at O3;have HO3:=hide O3;clear O3);go_ret;exact ⟨ao3,c3,by simp,HO3.out⟩
theorem zbr (ao:Option Addr) (n c:Nat) (w:World) (hn:n < 2) :
  Calls Tryz.prog 154 #[.slice ao n c] w fun e w'=>e = .returned (.slice ao n c)/\w'=w:=by
 have h:(n:Int) < 2:=by omega
 go_enter Tryz.func154,Tryz.ntmps154;go_wp2_with fail;go_ret;exact ⟨rfl,rfl⟩
end
section
open Go.RowKit

def nrC (s:Sn) (d:Rn):Int:=or2 (cmpI s.rep d.lo) (cmpI s.hi d.hi)
theorem zag (s:Sn) (d:Rn):nrC s d < 0↔s.rep < d.lo∨(s.rep=d.lo/\s.hi < d.hi):=by
 unfold nrC or2 cmpI;by_cases h1:s.rep < d.lo
 ·simp [h1]
 ·by_cases h2:d.lo < s.rep
  ·simp [h1,h2];omega
  ·have h3:s.rep=d.lo:=by omega
   by_cases h4:s.hi < d.hi
   ·simp [h3,h4]
   ·by_cases h5:d.hi < s.hi <;> simp [h3,h4,h5]
theorem zeK (s:Sn) (d:Rn) (w:World):Calls Tryz.prog 187 #[SV s,RV d] w fun e w'=>e = .returned (.int .i64 (nrC s d))/\Below w.heap.size w w':=by
 have b1:=ze w (.cells (SC s) 104);have x1:=qP w s;have s1:=World.size_alloc w (.cells (SC s) 104);obtain ⟨w1,hw1⟩:∃ w1,w.alloc (.cells (SC s) 104)=w1:=⟨_,rfl⟩;obtain ⟨g1,hg1⟩:∃ g1,w.heap.size=g1:=⟨_,rfl⟩;rw [hw1] at b1 x1 s1;rw [hg1] at x1 s1;have b2:=ze w1 (.cells (RC d) 48);have x2:=qe w1 48 d;obtain ⟨w2,hw2⟩:∃ w2,w1.alloc (.cells (RC d) 48)=w2:=⟨_,rfl⟩;rw [hw2] at b2 x2;rw [s1] at x2;have HB:=hide (b1.trans (b2.mono b1.size));have HX:Hid (SBox w2 g1 s/\Box w2 (g1+1) 48 d):=⟨x1.below b2,x2⟩
 have HSt:Hid (∀ W,Below w2.heap.size w2 W -> W.cell? ⟨g1,0,none⟩=some (.int .i64 s.rep)/\W.cell? ⟨g1,2,none⟩=some (.int .i64 s.hi)/\W.cell? ⟨g1+1,0,none⟩=some (.int .i64 d.lo)/\W.cell? ⟨g1+1,1,none⟩=some (.int .i64 d.hi)):=fun W hW=>by
  obtain ⟨c0,-,c2⟩:=(HX.out.1.below hW).at
  have hd:=(HX.out.2.below hW).at
  exact ⟨c0,c2,hd.c0,hd.c1⟩
 obtain ⟨p,Hp⟩:∃ p,Hid (cmpI s.rep d.lo=p):=⟨_,rfl⟩;obtain ⟨q,Hq⟩:∃ q,Hid (cmpI s.hi d.hi=q):=⟨_,rfl⟩
 have HR:Hid (nrC s d=or2 p q):=by show _=_;unfold nrC;rw [Hp.out,Hq.out]
 clear b1 b2 x1 x2;go_enter Tryz.func187,Tryz.ntmps187;go_wp2_with fail;clear hw1 hw2 s1 hg1;refine wp_region_held_drew (S:=fun W=>W.cell? ⟨g1,0,none⟩=some (.int .i64 s.rep)/\W.cell? ⟨g1,2,none⟩=some (.int .i64 s.hi)/\W.cell? ⟨g1+1,0,none⟩=some (.int .i64 d.lo)/\W.cell? ⟨g1+1,1,none⟩=some (.int .i64 d.hi)) (by kernel_rfl) (HSt.out _ (zf w2)) (fun hHeld=>?_);refine wU 0 ?_;refine wU 1 ?_;refine wU 2 ?_;refine wU 3 ?_;refine wU 5 ?_;refine wU 6 ?_;refine wU 7 ?_;refine wU 8 ?_;refine wpAnyH_ready (rs:=[4]) (by kernel_rfl) (by simp) (.cons rfl (fun K hK=>?_) .nil);go_simp;go_wp2_with fail;refine (qK s.rep d.lo _).mono ?_;rintro e w' ⟨rfl,rfl⟩;rw [Hp.out];refine hK.out _ _ (HSt.out _ (zf w2)) (fun hHeld=>?_);clear hK K;refine wpAnyH_ready (rs:=[9]) (by kernel_rfl) (by simp) (.cons rfl (fun K hK=>?_) .nil);go_simp
 go_wp2_with fail;refine (qK s.hi d.hi _).mono ?_;rintro e w' ⟨rfl,rfl⟩;rw [Hq.out];refine hK.out _ _ (HSt.out _ (zf w2)) (fun hHeld=>?_);clear hK K;have HB3:=hide ((zf w2).trans (ze w2.drew (.cells #[.int .i64 p,.int .i64 q] 3)));have HO:=hide (zaa p q w2.drew w2.heap.size rfl);refine wpAnyH_ready (rs:=[10]) (by kernel_rfl) (by simp) (.cons rfl (fun K hK=>?_) .nil);go_simp;refine hK.out _ _ (HSt.out _ HB3.out) (fun hHeld=>?_);clear hK K;refine wpAnyH_ready (rs:=[11]) (by kernel_rfl) (by simp) (.cons rfl (fun K hK=>?_) .nil);go_simp;go_wp2_with fail;refine HO.out.mono ?_;rintro e w' ⟨rfl,rfl⟩;refine hK.out _ _ (HSt.out _ HB3.out) (fun hHeld=>?_);clear hK K;refine wU 12 ?_;refine wpAnyH_done (by kernel_rfl) ?_ _;clear hHeld;go_wp2_with fail;go_ret;exact ⟨zG HR.out.symm,HB.out.trans (HB3.out.mono HB.out.size)⟩
end
section
open Go.RowKit
attribute [local go_sem ↓] ji jG qh qg
attribute [local go_sem] jj qJ xw
variable {w w' w2 W W' : World} {g : Nat}

def FirstAt (L:List Sn) (d:Rn) (n i:Nat):Prop:=i <= n/\(∀ j,j < i -> nrC (L.getD j sn0) d < 0)/\(i < n -> 0 <= nrC (L.getD i sn0) d)
def BsA (w w':World) (e:Ending) (L:List Sn) (d:Rn) (n:Nat):Prop:=∃ (i:Nat) (b:Bool),e = .returned (.tuple #[.int .i64 (i:Int),.bool b])/\FirstAt L d n i/\Below w.heap.size w w'
theorem ziv (ao:Option Addr) (n cap:Nat) (L:List Sn) (d:Rn) (w:World) (hS:SSrc w ao n cap L) (hm:∀ a b,a <= b -> b < n -> nrC (L.getD b sn0) d < 0 -> nrC (L.getD a sn0) d < 0) :
  Calls Tryz.prog 135 #[.slice ao n cap,RV d,.func (.func 187) #[] #[]] w fun e w'=>BsA w w' e L d n:=by
 have hcf:∀ (args:Array Value) (w:World),(callFunc 187 args).run Tryz.prog w = .ok (.enter 187 args) w:=fun _ _=>rfl;have b1:=ze w (.cells (RC d) 48);have x1:=qe w 48 d;obtain ⟨w1,hw1⟩:∃ w1,w.alloc (.cells (RC d) 48)=w1:=⟨_,rfl⟩;obtain ⟨g1,hg1⟩:∃ g1,w.heap.size=g1:=⟨_,rfl⟩;rw [hw1] at b1 x1;rw [hg1] at x1;have HB1:=hide b1;have HX:Hid (Box w1 g1 48 d/\SSrc w1 ao n cap L):=⟨x1,hS.below b1⟩;have hnb:n <= 5864062014805:=hS.big;have HM:=hide hm;clear b1 x1 hS hm;go_enter Tryz.func135,Tryz.ntmps135;go_wp2_with fail;clear hw1 hg1;go_loopw [9,10] (fun a b wr=>∃ (lo hi:Nat),a = .int .i64 (lo:Int)/\b = .int .i64 (hi:Int)/\lo <= hi/\hi <= n/\Hid (Below w1.heap.size w1 wr/\(∀ j,j < lo -> nrC (L.getD j sn0) d < 0)/\(hi < n -> 0 <= nrC (L.getD hi sn0) d))) (fun a b _=>(intOf b).toNat - (intOf a).toNat)
 case atStart=>exact ⟨0,n,rfl,rfl,Nat.zero_le _,Nat.le_refl _,Below.refl _ _,(fun j hj=>by omega),fun h=>by omega⟩
 case round =>
  obtain ⟨lo,hi,rfl,rfl,hlh,hhn,HI⟩:=hrel
  rename World=>wr
  by_cases hlt:lo < hi
  ·have hlti:(lo:Int) < (hi:Int):=by omega
   obtain ⟨h,hh⟩:∃ h:Nat,(lo+hi) / 2=h:=⟨_,rfl⟩
   have hlb:lo <= 5864062014805:=by omega
   have hhb:hi <= 5864062014805:=by omega
   obtain ⟨t,ht⟩:∃ t:Nat,lo+hi=t:=⟨_,rfl⟩
   have et:(lo:Int)+(hi:Int)=(t:Int):=by omega
   have e2:(t:Int) / 2=(h:Int):=by omega
   have e3:t / 2=h:=by omega
   have HH:Hid (lo <= h/\h < hi/\h < n):=⟨by omega,by omega,by omega⟩
   have htb:t <= 20000000000000:=by omega
   obtain ⟨ad,rfl,A0⟩:=(HX.out.2.below HI.out.1).at h HH.out.2.2;obtain ⟨s,Hs⟩:∃ s,Hid (L.getD h sn0=s):=⟨_,rfl⟩
   have HSt:Hid (∀ W,Below wr.heap.size wr W -> (ldS (.pointer (some (ad.add (h * 3))))).run Tryz.prog W = .ok (SV s) W/\(ldD (.pointer (some ⟨g1,0,none⟩))).run Tryz.prog W = .ok (RV d) W):=fun W hW=>by
    obtain ⟨ad',e',A1⟩:=((HX.out.2.below HI.out.1).below hW).at h HH.out.2.2;obtain rfl:=Option.some.inj e';rw [Hs.out] at A1;exact ⟨ql A1,qm ((HX.out.1.below HI.out.1).below hW).at⟩
   have hhi:(h:Int) < (n:Int):=by have:=HH.out;omega
   clear A0 hh ht;go_upto_region 5 with fail;clear et e2 e3;refine wp_region_held_drew (S:=fun W=>(ldS (.pointer (some (ad.add (h * 3))))).run Tryz.prog W = .ok (SV s) W/\(ldD (.pointer (some ⟨g1,0,none⟩))).run Tryz.prog W = .ok (RV d) W) (by kernel_rfl) (HSt.out _ (zf wr)) (fun hHeld=>?_);refine wU 0 ?_;refine wU 1 ?_;refine wU 2 ?_;refine wU 3 ?_;refine wU 4 ?_;refine wU 5 ?_;refine wpAnyH_ready (rs:=[6]) (by kernel_rfl) (by simp) (.cons rfl (fun K hK=>?_) .nil);go_simp;go_wp2_with fail;refine (zeK s d _).mono ?_;rintro e w3 ⟨rfl,b3⟩;have hB3:Below wr.heap.size wr w3:=(zf wr).trans b3;have HB3:=hide (HI.out.1.trans (hB3.mono HI.out.1.size));refine hK.out _ _ (HSt.out _ hB3) (fun hHeld=>?_);clear hK K b3 hB3;obtain ⟨z,hz⟩:∃ z,nrC s d=z:=⟨_,rfl⟩;rw [hz];refine wU 7 ?_;refine wpAnyH_done (by kernel_rfl) ?_ _;clear hHeld
   by_cases hz0:z < 0
   ·have HN:Hid (∀ j,j < h+1 -> nrC (L.getD j sn0) d < 0):=fun j hj=>HM.out j h (by omega) HH.out.2.2 (by rw [Hs.out,hz];exact hz0);clear hz;go_wp2_with fail;go_roundw
    case rel=>exact ⟨h+1,hi,by simp,rfl,by have:=HH.out;omega,hhn,HB3.out,HN.out,HI.out.2.2⟩
    case measure=>simp [intOf];have:=HH.out;omega
   ·have HN:Hid (h < n -> 0 <= nrC (L.getD h sn0) d):=fun _=>by rw [Hs.out,hz];omega
    clear hz;go_wp2_with fail;go_roundw
    case rel=>exact ⟨lo,h,rfl,rfl,HH.out.1,by have:=HH.out;omega,HB3.out,HI.out.2.1,HN.out⟩
    case measure=>simp [intOf];have:=HH.out;omega
  ·have hlti:¬ (lo:Int) < (hi:Int):=by omega
   obtain rfl:lo=hi:=by omega
   have HF:Hid (FirstAt L d n lo):=⟨hhn,HI.out.2.1,HI.out.2.2⟩;have HBw:=wTr HB1 HI.out.1;by_cases hln:lo < n
   ·have hlni:(lo:Int) < (n:Int):=by omega
    obtain ⟨ad,rfl,A0⟩:=(HX.out.2.below HI.out.1).at lo hln;obtain ⟨s,Hs⟩:∃ s,Hid (L.getD lo sn0=s):=⟨_,rfl⟩
    have HSt:Hid (∀ W,Below wr.heap.size wr W -> (ldS (.pointer (some (ad.add (lo * 3))))).run Tryz.prog W = .ok (SV s) W/\(ldD (.pointer (some ⟨g1,0,none⟩))).run Tryz.prog W = .ok (RV d) W):=fun W hW=>by
     obtain ⟨ad',e',A1⟩:=((HX.out.2.below HI.out.1).below hW).at lo hln;obtain rfl:=Option.some.inj e';rw [Hs.out] at A1;exact ⟨ql A1,qm ((HX.out.1.below HI.out.1).below hW).at⟩
    clear A0;go_upto_region 8 with fail;refine wp_region_held_drew (S:=fun W=>(ldS (.pointer (some (ad.add (lo * 3))))).run Tryz.prog W = .ok (SV s) W/\(ldD (.pointer (some ⟨g1,0,none⟩))).run Tryz.prog W = .ok (RV d) W) (by kernel_rfl) (HSt.out _ (zf wr)) (fun hHeld=>?_);refine wU 0 ?_;refine wU 1 ?_;refine wU 2 ?_;refine wU 3 ?_;refine wU 4 ?_;refine wU 5 ?_;refine wU 6 ?_;refine wU 7 ?_;refine wU 8 ?_;refine wU 9 ?_;refine wU 10 ?_;refine wpAnyH_ready (rs:=[11]) (by kernel_rfl) (by simp) (.cons rfl (fun K hK=>?_) .nil);go_simp;go_wp2_with fail;refine (zeK s d _).mono ?_;rintro e w3 ⟨rfl,b3⟩;have hB3:Below wr.heap.size wr w3:=(zf wr).trans b3;have HB3:=wTr HBw hB3;refine hK.out _ _ (HSt.out _ hB3) (fun hHeld=>?_);clear hK K b3 hB3;obtain ⟨z,hz⟩:∃ z,nrC s d=z:=⟨_,rfl⟩;rw [hz];clear hz;refine wU 14 ?_;refine wU 12 ?_
    refine wU 13 ?_;refine wU 15 ?_;refine wpAnyH_done (by kernel_rfl) ?_ _;clear hHeld;go_wp2_with fail;go_ret2;exact ⟨lo,_,rfl,HF.out,HB3.out⟩
   ·have hlni:¬ (lo:Int) < (n:Int):=by omega
    go_upto_region 8 with fail;refine wp_region_held_drew (S:=fun _=>True) (by kernel_rfl) (trivial) (fun hHeld=>?_);refine wU 0 ?_;refine wU 1 ?_;refine wU 2 ?_;refine wU 3 ?_;refine wU 4 ?_;refine wV 5 ?_;refine wV 6 ?_;refine wV 7 ?_;refine wV 8 ?_;refine wV 9 ?_;refine wV 10 ?_;refine wV 11 ?_;refine wV 12 ?_;refine wU 14 ?_;refine wU 13 ?_;refine wU 15 ?_;refine wpAnyH_done (by kernel_rfl) ?_ _;clear hHeld;go_wp2_with fail;go_ret2;exact ⟨lo,_,rfl,HF.out,HBw.out.trans ((zf wr).mono HBw.out.size)⟩
end
end Go.Proofs.YtjffpimfngdggaaGreat
