/- PSd ONa -/
import Derived.Test.YtcilfelgpmfehaaGreatBj13
import Derived.Lib.BufferMore
set_option maxRecDepth 100000
set_option maxHeartbeats 1600000
namespace Go.Proofs.YtcilfelgpmfehaaGreat
section
open Go.RowKit Go.Sort

def or2 (a b:Int):Int:=if a=0 then b else a
theorem zfR (g:Nat) (a b:Int) (w:World) (c0:w.cell? ⟨g,0,none⟩=some (.int .i64 a)) (c1:w.cell? ⟨g,1,none⟩=some (.int .i64 b)) :
  Calls Tryz.prog 121 #[.slice (some ⟨g,0,none⟩) 2 2] w fun e w'=>e = .returned (.int .i64 (or2 a b))/\w'=w:=by
 go_enter Tryz.func121,Tryz.ntmps121;go_wp2;go_loop [8] (fun i=>∃ k:Nat,k <= 2/\i = .int .i64 k/\Hid (0 < k -> a=0)/\Hid (1 < k -> b=0)) (fun i=>2 - (intOf i).toNat)
 case atStart=>exact ⟨0,Nat.zero_le _,rfl,fun h=>absurd h (by omega),fun h=>absurd h (by omega)⟩
 case round =>
  obtain ⟨k,hk,rfl,Ha,Hb⟩:=hrel;by_cases aq:k < 2
  ·obtain ⟨z,fk,Hz⟩:∃ z,w.cell? ⟨g,k,none⟩=some (.int .i64 z)/\Hid (or2 a b=if z=0/\k=0 then b else z):=by
    match k,aq,Ha with
    | 0,_,_=>exact ⟨a,c0,by show _=_;unfold or2;by_cases h:a=0 <;> simp [h]⟩
    | 1,_,Ha=>exact ⟨b,c1,by show _=_;unfold or2;rw [if_pos (Ha.out (by omega))];simp⟩
   have CP:Hid (z=0 -> (k=0 -> a=0)/\(k=1 -> b=0)):=by
    intro hz;constructor
    ·intro h;subst h;rw [c0] at fk;simpa [hz] using fk
    ·intro h;subst h;rw [c1] at fk;simpa [hz] using fk
   clear c0 c1;by_cases h0:z=0
   ·have hA:=(CP.out h0).1;have hB:=(CP.out h0).2
    have HA:Hid (0 < k+1 -> a=0):=by intro _;by_cases iA:k=0;exact hA iA;exact Ha.out (by omega)
    have HB:Hid (1 < k+1 -> b=0):=by intro _;exact hB (by omega)
    have lF:(z != 0)=false:=by simpa using h0
    clear h0 hA hB;go_wp2;go_round
    case rel=>exact ⟨k+1,by omega,by go_num,HA,HB⟩
    case measure=>simp [intOf];omega
   ·have lF:(z != 0)=true:=by simpa using h0
    have HF:Hid (or2 a b=z):=by show _=_;rw [Hz.out,if_neg (by simp [h0])]
    clear h0;go_wp2;go_ret;exact ⟨zx HF.out.symm,rfl⟩
  ·have HF:Hid (or2 a b=0):=by show _=_;unfold or2;rw [if_pos (Ha.out (by omega))];exact Hb.out (by omega)
   clear c0 c1;go_wp2;go_ret;exact ⟨zx HF.out.symm,rfl⟩
def byD (x y:Rn):Int:=or2 (au x.lo y.lo) (au x.hi y.hi)
def iq (x y:Rn):Bool:=decide (x.lo < y.lo) || (x.lo == y.lo && decide (x.hi < y.hi))
theorem kW (x y:Rn):ltOf byD x y=iq x y:=by
 unfold ltOf byD or2 au iq;by_cases h1:x.lo < y.lo
 ·simp [h1]
 ·by_cases h2:y.lo < x.lo
  ·have:¬ x.lo=y.lo:=by omega
   simp [h1,h2,this]
  ·have e:x.lo=y.lo:=by omega
   by_cases h3:x.hi < y.hi
   ·simp [e,h3]
   ·by_cases h4:y.hi < x.hi <;> simp [e,h3,h4]
theorem za0:SWO (ltOf byD) where
 irrefl x:=by rw [kW];simp [iq]
 trans x y z h1 h2:=by rw [kW] at *;simp [iq] at *;omega
 ntrans x y z h1 h2:=by rw [kW] at *;simp [iq] at *;omega
theorem zaQ (w:World) (a b c:Obj):lu w (((w.alloc a).alloc b).drew.alloc c):=by
 refine ⟨1,#[a]++#[b]++#[c],?_⟩;rw [alloc_eq_grow ((w.alloc a).alloc b).drew c,alloc_eq_grow (w.alloc a) b,alloc_eq_grow w a,grow_grow,drew_grow,grow_grow];rfl
structure mQ (w W:World) (x y:Rn):Prop where
 below:Below w.heap.size w W
 size:w.heap.size+2 <= W.heap.size
 a0:W.cell? ⟨w.heap.size,0,none⟩=some (.int .i64 x.lo)
 a1:W.cell? ⟨w.heap.size,1,none⟩=some (.int .i64 x.hi)
 b0:W.cell? ⟨w.heap.size+1,0,none⟩=some (.int .i64 y.lo)
 b1:W.cell? ⟨w.heap.size+1,1,none⟩=some (.int .i64 y.hi)
theorem mQ.start (w:World) (x y:Rn):mQ w ((w.alloc (.cells #[.int .i64 x.lo,.int .i64 x.hi] 64)).alloc (.cells #[.int .i64 y.lo,.int .i64 y.hi] 64)) x y:=
 ⟨(ze w _).trans ((ze _ _).mono (by simp)),by simp,by simp,by simp,by simp,by simp⟩
theorem mQ.on {w W W':World} {x y:Rn} (h:mQ w W x y) (hb:Below W.heap.size W W'):mQ w W' x y:=
 ⟨h.below.trans (hb.mono h.below.size),Nat.le_trans h.size hb.size,(hb.cell (World.block_lt_of_cell? _ _ h.a0)).trans h.a0,(hb.cell (World.block_lt_of_cell? _ _ h.a1)).trans h.a1,(hb.cell (World.block_lt_of_cell? _ _ h.b0)).trans h.b0,(hb.cell (World.block_lt_of_cell? _ _ h.b1)).trans h.b1⟩
theorem zaN (a b:Int) (w:World) (g:Nat) (hg:w.heap.size=g):Calls Tryz.prog 121 #[.slice (some ⟨g,0,none⟩) 2 2] (w.alloc (.cells #[.int .i64 a,.int .i64 b] 3)) fun e w'=>e = .returned (.int .i64 (or2 a b))/\w'=w.alloc (.cells #[.int .i64 a,.int .i64 b] 3):=by
 subst hg;exact zfR w.heap.size a b _ (by simp) (by simp)
theorem bj (x y:Rn) (w:World):Calls Tryz.prog 105 #[.agg #[.int .i64 x.lo,.int .i64 x.hi],.agg #[.int .i64 y.lo,.int .i64 y.hi]] w fun e w'=>e = .returned (.int .i64 (byD x y))/\lu w w':=by
 have T0:=hide (mQ.start w x y);obtain ⟨w0,mh⟩:∃ w0,Hid ((w.alloc (.cells #[.int .i64 x.lo,.int .i64 x.hi] 64)).alloc (.cells #[.int .i64 y.lo,.int .i64 y.hi] 64)=w0):=⟨_,rfl⟩;rw [mh.out] at T0;have c1:=T0.out.a0;have c2:=T0.out.a1;have c3:=T0.out.b0;have c4:=T0.out.b1;obtain ⟨p,Hp⟩:∃ p,Hid (au x.lo y.lo=p):=⟨_,rfl⟩;obtain ⟨q,Hq⟩:∃ q,Hid (au x.hi y.hi=q):=⟨_,rfl⟩
 have C1:Hid (∀ W,Calls Tryz.prog 122 #[.int .i64 x.lo,.int .i64 y.lo] W fun e w'=>e = .returned (.int .i64 p)/\w'=W):=fun W=>by rw [<- Hp.out];exact qQ _ _ W
 have C2:Hid (∀ W,Calls Tryz.prog 122 #[.int .i64 x.hi,.int .i64 y.hi] W fun e w'=>e = .returned (.int .i64 q)/\w'=W):=fun W=>by rw [<- Hq.out];exact qQ _ _ W
 have HF:Hid (or2 p q=byD x y):=by show _=_;unfold byD;rw [Hp.out,Hq.out]
 have T1:Hid (mQ w (w0.drew.alloc (.cells #[.int .i64 p,.int .i64 q] 3)) x y):=(T0.out.on (zd _)).on (ze _ _);have HO:=hide (zaN p q w0.drew w0.heap.size rfl)
 have HG:Hid (lu w (w0.drew.alloc (.cells #[.int .i64 p,.int .i64 q] 3))):=by rw [<- mh.out];exact zaQ _ _ _ _
 obtain ⟨r,m⟩:=x;obtain ⟨r',m'⟩:=y;go_enter Tryz.func105,Tryz.ntmps105;go_wp2_with fail;rw [mh.out]
 first | (go_region_held (fun W=>W.cell? ⟨w.heap.size,0,none⟩=some (.int .i64 r)/\W.cell? ⟨w.heap.size,1,none⟩=some (.int .i64 m)/\W.cell? ⟨w.heap.size+1,0,none⟩=some (.int .i64 r')/\W.cell? ⟨w.heap.size+1,1,none⟩=some (.int .i64 m')) (first | exact ⟨T1.out.a0,T1.out.a1,T1.out.b0,T1.out.b1⟩ | go_keep) (first | (go_at_call_of 122 r;refine (C1.out _).mono ?_;rintro e w' ⟨rfl,rfl⟩) | (go_at_call_of 122 m;refine (C2.out _).mono ?_;rintro e w' ⟨rfl,rfl⟩) | (go_at_call 121;refine HO.out.mono ?_;rintro e w' ⟨rfl,rfl⟩))) | fail
 all_goals (go_wp2_with fail)
 all_goals go_ret
 all_goals exact ⟨zx HF.out,HG.out⟩
theorem pz (blk size:Nat) (w:World):CmpLays Tryz.prog 105 #[] cF 2 byD blk 0 size w:=
 fun _ _ _ _ x y=>bj x y _
theorem zcE (ad:Addr) (cap n:Nat) (d:Array Rn) (w:World) (M:MR w ad d) (hn:d.size=n) (hb:n <= 8796093022207) :
  Calls Tryz.prog 104 #[.slice (some ad) n cap,.func (.func 105) #[] #[]] w fun e w'=>e = .returned (.tuple #[])/\∃ d',d'.toList.Perm d.toList/\d'.size=n/\MR w' ad d'/\Below ad.block w w':=by
 subst hn;have eg:∀ args w,(callFunc 105 args).run Tryz.prog w = .ok (.enter 105 args) w:=enters_of Tryz.func105 (by kernel_rfl) rfl;have h:=AnyQ.slices_SortFunc Tryz.sortD 2 Tryz.isAgg64 Tryz.sizeOf64 cF (fun _=>rfl) (fun x v hv=>jE x v hv) byD za0 105 #[] ad.block 0 cap d w eg (pz ad.block d.size w) M.hk M.lt (by omega);rw [<- M.ha] at h;refine Calls.mono h ?_;rintro e w' ⟨rfl,d',m,os,⟨hs,_,hp⟩,_,rfl⟩;refine ⟨rfl,d',?_,hs,⟨holdsK_sortWorldK_c cF 2 w ad.block 0 d d' m os M.hk M.lt hs,?_,M.ha⟩,?_⟩
 ·have e1:d'.extract 0 d.size=d':=by rw [<- hs];simp
  have e2:d.extract 0 d.size=d:=by simp
  rwa [e1,e2] at hp
 ·have:=M.lt
  show ad.block < ((putRow id (Sort.ahead w m) ad.block 0 (flatK cF 2 d')).heap++os).size
  rw [Array.size_append,size_putRow]
  show ad.block < w.heap.size+os.size
  omega
 ·have h1:Below ad.block w (putRow id (Sort.ahead w m) ad.block 0 (flatK cF 2 d')):=Lib.below_putRow (Below.refl _ _) (Nat.le_refl _);refine h1.trans ?_
  have eE:ad.block <= (putRow id (Sort.ahead w m) ad.block 0 (flatK cF 2 d')).heap.size:=by rw [size_putRow];exact Nat.le_of_lt M.lt
  show Below ad.block _ (grow (putRow id (Sort.ahead w m) ad.block 0 (flatK cF 2 d')) os)
  generalize putRow id (Sort.ahead w m) ad.block 0 (flatK cF 2 d')=V at eE;exact ⟨rfl,rfl,rfl,by show _ <= (V.heap++os).size;rw [Array.size_append];omega,fun k hk=>by show (V.heap++os)[k]? = _;rw [Array.getElem?_append_left (by omega)]⟩
theorem ez.mr {B0 B:Nat} {w w':World} {ad:Addr} {cap:Nat} {acc:List Rn} (O:ez B0 B w w' (some ad) cap acc):MR w' ad acc.toArray/\B <= ad.block/\acc.length <= cap/\cap <= maxLen:=by
 rcases O.own.2 with ⟨h0,_⟩ | ⟨g,c,cur,hv,dV,dB,hnc,fw,hcsz,htake⟩
 ·cases h0
 ·simp only [Value.slice.injEq,Option.some.injEq,true_and] at hv;obtain ⟨rfl,rfl⟩:=hv;refine ⟨⟨fun j hj=>?_,(Array.getElem?_eq_some_iff.1 dB).1,rfl⟩,dV,hnc,fw⟩;rw [Sort.size_flatK] at hj
  have IV:j < acc.length * 2:=by simpa using hj
  refine ⟨?_,by simp [World.frozen?,dB]⟩;rw [Nat.zero_add,O.own.cellAt j (by omega),Sort.get_flatK _ _ _ _ hj];have e4:=vQ acc (j / 2) (j % 2) (by omega) (by omega);rw [show j / 2 * 2+j % 2=j by omega] at e4;rw [e4]
  have e5:acc.toArray[j / 2]! = acc.getD (j / 2) rn0:=by
   rw [getElem!_pos acc.toArray (j / 2) (by simp;omega)];simp [List.getD,show j / 2 < acc.length by omega]
  rw [e5]
  have:j % 2=0∨j % 2=1:=by omega
  rcases this with h | h <;> rw [h] <;> rfl
theorem zcl (ad:Addr) (n c:Nat) (D:List Rn) (w:World) (hS:aU w (some ad) n c D) :
  Calls Tryz.prog 103 #[.slice (some ad) n c] w fun e w'=>∃ ao c',e = .returned (.slice ao n c')/\ez w.heap.size w.heap.size w w' ao c' D:=by
 have HO:=hide (zcV w);have HS:=hide (hS.below (ze w (.cells #[] 64)));have HB:=hS.big;have ej:(binOp .eql 123 (.slice (some ad) n c) (.slice none 0 0)).run Tryz.prog w = .ok (.bool false) w:=Lib.run_eql_slice_some_nil w _ _ _ Tryz.underlying123;clear hS;go_enter Tryz.func103,Tryz.ntmps103;go_wp2_with (at_builtin;refine HO.out.appendS D (some ad) n c HS.out (by simp only [List.length_nil];omega) rfl (.tmp 5) (.tmp 6) rfl 0 rfl rfl rfl ?_;intro ao3 c3 w3 O3;rw [List.nil_append] at O3;have tQ:=hide O3;clear O3);go_ret;exact ⟨ao3,c3,by simp,tQ.out⟩
theorem zal (ao:Option Addr) (n c:Nat) (w:World) (hn:n < 2) :
  Calls Tryz.prog 106 #[.slice ao n c] w fun e w'=>e = .returned (.slice ao n c)/\w'=w:=by
 have h:(n:Int) < 2:=by omega
 go_enter Tryz.func106,Tryz.ntmps106;go_wp2_with fail;go_ret;exact ⟨rfl,rfl⟩
end
section
open Go.RowKit

def nrC (s:Sn) (d:Rn):Int:=or2 (au s.rep d.lo) (au s.hi d.hi)
theorem yN (s:Sn) (d:Rn):nrC s d < 0↔s.rep < d.lo∨(s.rep=d.lo/\s.hi < d.hi):=by
 unfold nrC or2 au;by_cases h1:s.rep < d.lo
 ·simp [h1]
 ·by_cases h2:d.lo < s.rep
  ·simp [h1,h2];omega
  ·have h3:s.rep=d.lo:=by omega
   by_cases h4:s.hi < d.hi
   ·simp [h3,h4]
   ·by_cases h5:d.hi < s.hi <;> simp [h3,h4,h5]
theorem zc0 (s:Sn) (d:Rn) (w:World):Calls Tryz.prog 148 #[SV s,RV d] w fun e w'=>e = .returned (.int .i64 (nrC s d))/\Below w.heap.size w w':=by
 have b1:=ze w (.cells (SC s) 69);have x1:=qF w s;have s1:=World.size_alloc w (.cells (SC s) 69);obtain ⟨w1,dH⟩:∃ w1,w.alloc (.cells (SC s) 69)=w1:=⟨_,rfl⟩;obtain ⟨g1,dx⟩:∃ g1,w.heap.size=g1:=⟨_,rfl⟩;rw [dH] at b1 x1 s1;rw [dx] at x1 s1;have b2:=ze w1 (.cells (RC d) 64);have x2:=qx w1 64 d;obtain ⟨w2,eZ⟩:∃ w2,w1.alloc (.cells (RC d) 64)=w2:=⟨_,rfl⟩;rw [eZ] at b2 x2;rw [s1] at x2;have HB:=hide (b1.trans (b2.mono b1.size));have HX:Hid (cZ w2 g1 s/\Box w2 (g1+1) 64 d):=⟨x1.below b2,x2⟩
 have aw:Hid (∀ W,Below w2.heap.size w2 W -> W.cell? ⟨g1,0,none⟩=some (.int .i64 s.rep)/\W.cell? ⟨g1,2,none⟩=some (.int .i64 s.hi)/\W.cell? ⟨g1+1,0,none⟩=some (.int .i64 d.lo)/\W.cell? ⟨g1+1,1,none⟩=some (.int .i64 d.hi)):=fun W hW=>by
  obtain ⟨c0,-,c2⟩:=(HX.out.1.below hW).at
  have hd:=(HX.out.2.below hW).at
  exact ⟨c0,c2,hd.c0,hd.c1⟩
 obtain ⟨p,Hp⟩:∃ p,Hid (au s.rep d.lo=p):=⟨_,rfl⟩;obtain ⟨q,Hq⟩:∃ q,Hid (au s.hi d.hi=q):=⟨_,rfl⟩
 have HR:Hid (nrC s d=or2 p q):=by show _=_;unfold nrC;rw [Hp.out,Hq.out]
 clear b1 b2 x1 x2;go_enter Tryz.func148,Tryz.ntmps148;go_wp2_with fail;clear dH eZ s1 dx;refine wp_region_held_drew (S:=fun W=>W.cell? ⟨g1,0,none⟩=some (.int .i64 s.rep)/\W.cell? ⟨g1,2,none⟩=some (.int .i64 s.hi)/\W.cell? ⟨g1+1,0,none⟩=some (.int .i64 d.lo)/\W.cell? ⟨g1+1,1,none⟩=some (.int .i64 d.hi)) (by kernel_rfl) (aw.out _ (zd w2)) (fun hHeld=>?_);refine wU 0 ?_;refine wU 1 ?_;refine wU 2 ?_;refine wU 3 ?_;refine wU 5 ?_;refine wU 6 ?_;refine wU 7 ?_;refine wU 8 ?_;refine wR 4 fun K hK=>?_;go_simp;go_wp2_with fail;refine (qQ s.rep d.lo _).mono ?_;rintro e w' ⟨rfl,rfl⟩;rw [Hp.out];refine hK.out _ _ (aw.out _ (zd w2)) (fun hHeld=>?_);clear hK K;refine wR 9 fun K hK=>?_;go_simp
 go_wp2_with fail;refine (qQ s.hi d.hi _).mono ?_;rintro e w' ⟨rfl,rfl⟩;rw [Hq.out];refine hK.out _ _ (aw.out _ (zd w2)) (fun hHeld=>?_);clear hK K;have aN:=hide ((zd w2).trans (ze w2.drew (.cells #[.int .i64 p,.int .i64 q] 3)));have HO:=hide (zaN p q w2.drew w2.heap.size rfl);refine wR 10 fun K hK=>?_;go_simp;refine hK.out _ _ (aw.out _ aN.out) (fun hHeld=>?_);clear hK K;refine wR 11 fun K hK=>?_;go_simp;go_wp2_with fail;refine HO.out.mono ?_;rintro e w' ⟨rfl,rfl⟩;refine hK.out _ _ (aw.out _ aN.out) (fun hHeld=>?_);clear hK K;refine wU 12 ?_;refine wD ?_ _;clear hHeld;go_wp2_with fail;go_ret;exact ⟨zx HR.out.symm,HB.out.trans (aN.out.mono HB.out.size)⟩
end
end Go.Proofs.YtcilfelgpmfehaaGreat
