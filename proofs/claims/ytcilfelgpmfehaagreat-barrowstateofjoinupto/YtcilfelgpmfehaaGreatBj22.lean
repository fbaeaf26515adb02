/- LCpt LCp LRis -/
import Derived.Test.YtcilfelgpmfehaaGreatBj21
import Derived.Deep.LoopGhost
import Derived.Shelf.SlSortCmp.NoneTotal
set_option maxRecDepth 100000
set_option maxHeartbeats 8000000
namespace Go.Proofs.YtcilfelgpmfehaaGreat.K
section
open Go.RowKit Go.Lib
attribute [local go_sem ↓] zu zt ql
attribute [local go_sem] zC zs zB
theorem qt (p:Addr) (i j:Nat):(p.add i).add j=p.add (i+j):=by
 unfold Addr.add;split <;> split <;> simp_all [Nat.add_assoc]
def DK (a:Value):Sem Value:=Builtin.clear_ #[22] 0 #[a]
theorem zgb (a:Value):Builtin.clear_ #[22] 0 #[a]=DK a:=rfl
attribute [local go_sem ↓] zgb
def dy (w w':World) (e:Ending) (ad:Addr) (cap:Nat) (d:Array En):Prop:=
 ∃ k d',e = .returned (.slice (some ad) k cap)/\MR w' ad d'/\k <= d.size/\d'.size=d.size/\d'.toList.take k=compactUpTo d d.size/\Below ad.block w w'
theorem xM {w w':World} {ad:Addr} {cap n:Nat} {d:Array En} (hn:d.size=n) (M:MR w' ad d) (hb:Below ad.block w w') (ch:∀ j,j < d.size -> keeps d j=true):dy w w' (.returned (.slice (some ad) n cap)) ad cap d:=
 ⟨n,d,rfl,M,by omega,rfl,by rw [compactUpTo_all d _ ch,range_map_get,List.take_of_length_le (by simp;omega)],hb⟩
theorem y5 {d dk d':Array En} {n kk:Nat} (hI:CompInv d n kk dk) (hn:d.size=n) (hs:d'.size=dk.size) (hl:∀ j,j < kk -> d'[j]! = dk[j]!):d'.toList.take kk=compactUpTo d d.size:=by
 rw [hn];have rN:=hI.lt;have eE:=hI.size;apply List.ext_getElem?;intro j;by_cases hj:j < kk
 ·rw [hI.low j hj,<- hl j hj,List.getElem?_take,if_pos hj,Array.getElem?_toList,Array.getElem?_eq_getElem (by omega),getElem!_pos d' j (by omega)]
 ·rw [List.getElem?_eq_none (by rw [List.length_take];omega),List.getElem?_eq_none (by rw [hI.len];omega)]
theorem j5 (ad:Addr) (cap n:Nat) (d:Array En) (w:World) (M:MR w ad d) (hn:d.size=n) (hb:n <= 3518437208883) (nM:n <= cap) (fw:cap <= 9223372036854775807) :
  Calls Tryz.prog 84 #[.slice (some ad) n cap] w fun e w'=>dy w w' e ad cap d:=by
 have HM:=hide M;have HN:=hide hn;have om:Hid (ad.block <= w.heap.size):=Nat.le_of_lt M.lt;clear M hn;by_cases h2:n < 2
 ·have HF:Hid (dy w w (.returned (.slice (some ad) n cap)) ad cap d):=xM HN.out HM.out (Below.refl _ _) (fun j hj=>keeps_lt_one d j (by have:=HN.out;omega));go_enter Tryz.func84,Tryz.ntmps84;go_wp2_with fail;go_ret;exact HF.out
 ·go_enter Tryz.func84,Tryz.ntmps84;go_wp2_with fail;go_loopg [3] n (fun g s wr=>∃ k:Nat,1 <= k/\k <= n/\n - k <= g/\s = .int .i64 k/\Hid (Below w.heap.size w wr/\∀ j,j < k -> keeps d j=true))
  case atStart=>exact ⟨1,Nat.le_refl _,by omega,by omega,rfl,Below.refl _ _,keeps_lt_one d⟩
  case round =>
   obtain ⟨k,sh,hk,hg,rfl,H⟩:=hrel
   rename World=>w4
   have iC:=hide (HM.out.on H.out.1);by_cases aq:k < n
   ·obtain ⟨j,hj⟩:∃ j,k - 1=j:=⟨_,rfl⟩
    have hz:IntKind.i64.wrap ((k:Int) - 1)=(j:Int):=by rw [IntKind.wrap_i64];omega
    have iR:j < n:=by omega
    have A0:=hide (iC.out.at k (by rw [HN.out];exact aq));have A1:=hide (iC.out.at j (by rw [HN.out];exact iR));obtain ⟨x,Hx⟩:∃ x,Hid (d[k]! = x):=⟨_,rfl⟩;obtain ⟨y,Hy⟩:∃ y,Hid (d[j]! = y):=⟨_,rfl⟩;rw [Hx.out] at A0;rw [Hy.out] at A1;have Hj:=hide hj;clear hj;have l0:∀ d os,(eR (.pointer (some (ad.add (k * 4))))).run Tryz.prog (Sort.grow (redrawn w4 d) os) = .ok (EV x) (Sort.grow (redrawn w4 d) os):=fun d os=>zX (A0.out.on (below_regrown w4 d os));have l1:∀ d os,(eR (.pointer (some (ad.add (j * 4))))).run Tryz.prog (Sort.grow (redrawn w4 d) os) = .ok (EV y) (Sort.grow (redrawn w4 d) os):=fun d os=>zX (A1.out.on (below_regrown w4 d os));obtain ⟨q,hq⟩:∃ q,eqE x y=q:=⟨_,rfl⟩
    cases q with
    | false =>
     have HK:Hid (keeps d k=true):=keeps_pos (by rw [Hj.out,Hx.out,Hy.out];intro h;rw [(kH x y).2 h] at hq;cases hq);go_wp2_with fail;refine wp_region_quiet_below (by kernel_rfl) (by kernel_rfl) ?_
     repeat (with_reducible (refine wpQuiet_step ?_);intro K hK;go_simp;(try rw [if_neg (by unfold undef;simp)]);first | (with_reducible (refine hK _ ?_);clear hK K) | (apply Exists.intro;refine ⟨fun _=>?_,hK _ ?_⟩;(fail);clear hK K))
     with_reducible (refine wpQuiet_nil ?_)
     intro w5 hw';obtain ⟨⟨dq,osq⟩,hw''⟩:=hw'
     have b5:Below w4.heap.size w4 w5:=by rw [hw''];exact below_regrown w4 dq osq
     clear hw'' dq osq
     have H5:Hid (Below w.heap.size w w5/\∀ j,j < k+1 -> keeps d j=true):=⟨H.out.1.trans (b5.mono H.out.1.size),fun i hi=>by
      by_cases e:i=k
      ·rw [e];exact HK.out
      ·exact H.out.2 i (by omega)⟩
     clear b5 l0 l1;go_wp2_with fail;go_roundg (n - (k+1))
     case measure=>omega
     case rel=>exact ⟨k+1,by omega,by omega,Nat.le_refl _,by go_num,H5⟩
    | true =>
     have HK:Hid (keeps d k=false):=keeps_neg (by omega) (by rw [Hj.out,Hx.out,Hy.out];exact (kH x y).1 hq);go_wp2_with fail;refine wp_region_quiet_below (by kernel_rfl) (by kernel_rfl) ?_
     repeat (with_reducible (refine wpQuiet_step ?_);intro K hK;go_simp;(try rw [if_neg (by unfold undef;simp)]);first | (with_reducible (refine hK _ ?_);clear hK K) | (apply Exists.intro;refine ⟨fun _=>?_,hK _ ?_⟩;(fail);clear hK K))
     with_reducible (refine wpQuiet_nil ?_)
     intro w5 hw';obtain ⟨⟨dq,osq⟩,hw''⟩:=hw'
     have b5:Below w4.heap.size w4 w5:=by rw [hw''];exact below_regrown w4 dq osq
     clear hw'' dq osq;have Bn:=hide (iC.out.on b5);have ee:Hid (Below ad.block w w5):=(H.out.1.mono om.out).trans (b5.mono (Nat.le_trans om.out H.out.1.size));have ig:Hid (CompInv d (k+1) k d):=CompInv.start H.out.2 HK.out;clear b5 l0 l1 hq;go_wp2_with fail;go_loopg [3,5] n (fun g s3 s5 wr=>∃ (kk k2:Nat) (dk:Array En),1 <= k2/\k+k2 <= n/\kk < n/\n - (k+k2) <= g/\s3 = .int .i64 kk/\s5 = .int .i64 k2/\Hid (MR wr ad dk/\CompInv d (k+k2) kk dk/\Below ad.block w wr))
     case atStart=>exact ⟨k,1,d,Nat.le_refl _,by omega,aq,by omega,rfl,rfl,Bn.out,ig.out,ee.out⟩
     case round =>
      obtain ⟨kk,k2,dk,nJ,I4,rN,gO,rfl,rfl,HI⟩:=hrel
      rename World=>w6
      clear Bn ig ee iC A0 A1;have HD:Hid (dk.size=n):=HI.out.2.1.size.trans HN.out;by_cases hlt2:k2 < n - k
      ·obtain ⟨j2,Fq⟩:∃ j2,k2 - 1=j2:=⟨_,rfl⟩
       have ef:IntKind.i64.wrap ((k2:Int) - 1)=(j2:Int):=by rw [IntKind.wrap_i64];omega
       have Fw:j2 < n - k:=by omega
       have A0:=hide (HI.out.1.at (k+k2) (by rw [HD.out];omega));have A1:=hide (HI.out.1.at (k+j2) (by rw [HD.out];omega));have FB:=HI.out.2.1.lt;obtain ⟨u,Hu⟩:∃ u,Hid (d[k+k2]! = u):=⟨_,rfl⟩;obtain ⟨v,Hv⟩:∃ v,Hid (d[k+j2]! = v):=⟨_,rfl⟩;rw [HI.out.2.1.high (k+k2) (by omega),Hu.out,Nat.add_mul,<- qt] at A0;rw [HI.out.2.1.high (k+j2) (by omega),Hv.out,Nat.add_mul,<- qt] at A1
       have BH:Hid (k+k2 - 1=k+j2):=by show _=_;omega
       clear Fq;have l0:∀ d os,(eR (.pointer (some ((ad.add (k * 4)).add (k2 * 4))))).run Tryz.prog (Sort.grow (redrawn w6 d) os) = .ok (EV u) (Sort.grow (redrawn w6 d) os):=fun d os=>zX (A0.out.on (below_regrown w6 d os));have l1:∀ d os,(eR (.pointer (some ((ad.add (k * 4)).add (j2 * 4))))).run Tryz.prog (Sort.grow (redrawn w6 d) os) = .ok (EV v) (Sort.grow (redrawn w6 d) os):=fun d os=>zX (A1.out.on (below_regrown w6 d os));obtain ⟨q2,nE⟩:∃ q2,eqE u v=q2:=⟨_,rfl⟩
       cases q2 with
       | true =>
        have iV:Hid (CompInv d (k+k2+1) kk dk):=HI.out.2.1.skip (keeps_neg (by omega) (by rw [BH.out,Hu.out,Hv.out];exact (kH u v).1 nE));go_wp2_with fail;refine wp_region_quiet_below (by kernel_rfl) (by kernel_rfl) ?_
        repeat (with_reducible (refine wpQuiet_step ?_);intro K hK;go_simp;(try rw [if_neg (by unfold undef;simp)]);first | (with_reducible (refine hK _ ?_);clear hK K) | (apply Exists.intro;refine ⟨fun _=>?_,hK _ ?_⟩;(fail);clear hK K))
        with_reducible (refine wpQuiet_nil ?_)
        intro w7 hw';obtain ⟨⟨dq,osq⟩,hw''⟩:=hw'
        have b7:Below w6.heap.size w6 w7:=by rw [hw''];exact below_regrown w6 dq osq
        clear hw'' dq osq;have H7:Hid (MR w7 ad dk/\CompInv d (k+(k2+1)) kk dk/\Below ad.block w w7):=⟨HI.out.1.on b7,iV.out,HI.out.2.2.trans (b7.mono (Nat.le_of_lt HI.out.1.lt))⟩;clear b7 l0 l1;go_wp2_with fail;go_roundg (n - (k+(k2+1)))
        case measure=>omega
        case rel=>exact ⟨kk,k2+1,dk,by omega,by omega,rN,Nat.le_refl _,rfl,by go_num,H7⟩
       | false =>
        have iV:Hid (CompInv d (k+k2+1) (kk+1) (dk.setIfInBounds kk u)):=by
         have:=HI.out.2.1.keep (by rw [HN.out];omega) (keeps_pos (by rw [BH.out,Hu.out,Hv.out];intro h;rw [(kH u v).2 h] at nE;cases nE));rwa [Hu.out] at this
        go_wp2_with fail;refine wp_region_quiet_below (by kernel_rfl) (by kernel_rfl) ?_
        repeat (with_reducible (refine wpQuiet_step ?_);intro K hK;go_simp;(try rw [if_neg (by unfold undef;simp)]);first | (with_reducible (refine hK _ ?_);clear hK K) | (apply Exists.intro;refine ⟨fun _=>?_,hK _ ?_⟩;(fail);clear hK K))
        with_reducible (refine wpQuiet_nil ?_)
        intro w7 hw';obtain ⟨⟨dq,osq⟩,hw''⟩:=hw'
        have b7:Below w6.heap.size w6 w7:=by rw [hw''];exact below_regrown w6 dq osq
        clear hw'' dq osq;have l7:=zX (A0.out.on b7);obtain ⟨w8,cr,M8,B8,_⟩:=(HI.out.1.on b7).store kk u (by rw [HD.out];exact rN);have H8:Hid (MR w8 ad (dk.setIfInBounds kk u)/\CompInv d (k+(k2+1)) (kk+1) (dk.setIfInBounds kk u)/\Below ad.block w w8):=⟨M8,iV.out,(HI.out.2.2.trans (b7.mono (Nat.le_of_lt HI.out.1.lt))).trans B8⟩;clear b7 l0 l1 M8 B8;go_wp2_with fail;go_roundg (n - (k+(k2+1)))
        case measure=>omega
        case rel=>exact ⟨kk+1,k2+1,dk.setIfInBounds kk u,by omega,by omega,by omega,Nat.le_refl _,by go_num,by go_num,H8⟩
      ·have tK:k+k2=n:=by omega
       obtain ⟨w7,d',fD,M7,rS,BM,B7,_⟩:=HI.out.1.clear kk (by rw [HD.out];exact rN) (cap - kk);rw [HD.out] at fD;have G0:(DK (.slice (some (ad.add (kk * 4))) (n - kk) (cap - kk))).run Tryz.prog w6 = .ok (.tuple #[]) w7:=fD 0
       have HF:Hid (dy w w7 (.returned (.slice (some ad) kk cap)) ad cap d):=by
        have hI:=HI.out.2.1;rw [tK] at hI;exact ⟨kk,d',rfl,M7,by rw [HN.out];omega,rS.trans hI.size,y5 hI HN.out rS BM,HI.out.2.2.trans B7⟩
       clear fD M7 rS BM B7;go_wp2_with fail;go_ret;exact HF.out
   ·have HF:Hid (dy w w4 (.returned (.slice (some ad) n cap)) ad cap d):=xM HN.out iC.out (H.out.1.mono om.out) (fun j hj=>H.out.2 j (by have:=HN.out;omega));go_wp2_with fail;go_ret;exact HF.out
end
section
open Go.RowKit Go.Lib

theorem zdy (d:Array En):(compactUpTo d d.size).Sublist d.toList:=by
 have h:(compactUpTo d d.size).Sublist ((List.range d.size).map (d[·]!)):=List.filter_sublist.map _;rwa [range_map_get] at h
theorem zgj (d:Array En) (i:Nat) (h:i < d.size):d[i]! = d[i]:=getElem!_pos d i h
theorem zf9 (d:Array En) (m:Nat):m <= d.size -> ∀ j,j < m -> d[j]! ∈ compactUpTo d m:=by
 induction m with
 | zero=>intro _ j hj;omega
 | succ m ih =>
  intro hm j hj;rw [compactUpTo_succ];by_cases e:j=m
  ·subst e;by_cases hk:keeps d j=true
   ·rw [if_pos hk];simp
   ·rw [if_neg hk,List.append_nil]
    have iQ:¬ (j=0∨d[j]! ≠ d[j - 1]!):=by simpa [keeps] using hk
    have h0:¬ j=0:=fun h=>iQ (Or.inl h);have h1:d[j]! = d[j - 1]! := Classical.byContradiction fun h=>iQ (Or.inr h);rw [h1];exact ih (by omega) (j - 1) (by omega)
  ·exact List.mem_append_left _ (ih (by omega) j (by omega))
theorem zaV (d:Array En) (x:En):x∈compactUpTo d d.size↔x∈d.toList:=by
 constructor
 ·exact fun h=>(zdy d).mem h
 ·intro h;obtain ⟨i,hi,rfl⟩:=List.mem_iff_getElem.1 h
  have iJ:i < d.size:=by simpa using hi
  have:=zf9 d d.size (Nat.le_refl _) i iJ;rw [zgj d i iJ] at this;simpa using this
theorem zeR (d:Array En) (m:Nat):0 < m -> (compactUpTo d m).getLast? = some d[m - 1]! := by
 induction m with
 | zero=>intro h;omega
 | succ m ih =>
  intro _;rw [compactUpTo_succ];by_cases hk:keeps d m=true
  ·rw [if_pos hk];simp
  ·rw [if_neg hk,List.append_nil]
   have iQ:¬ (m=0∨d[m]! ≠ d[m - 1]!):=by simpa [keeps] using hk
   have h0:¬ m=0:=fun h=>iQ (Or.inl h);have h1:d[m]! = d[m - 1]! := Classical.byContradiction fun h=>iQ (Or.inr h);rw [ih (by omega),show m+1 - 1=m by omega,h1]
theorem zga (d:Array En) (m:Nat):∀ i,i+1 < (compactUpTo d m).length -> (compactUpTo d m).getD i en0≠(compactUpTo d m).getD (i+1) en0:=by
 induction m with
 | zero=>intro i hi;simp [compactUpTo] at hi
 | succ m ih =>
  intro i hi;by_cases hk:keeps d m=true
  ·rw [compactUpTo_succ,if_pos hk] at hi ⊢;rw [List.length_append,List.length_singleton] at hi;by_cases e:i+1 < (compactUpTo d m).length
   ·have:=ih i e;simpa [List.getD,List.getElem?_append_left,e,show i < (compactUpTo d m).length by omega] using this
   ·have el:i+1=(compactUpTo d m).length:=by omega
    have hm:0 < m:=by
     rcases Nat.eq_zero_or_pos m with h | h
     ·subst h;simp [compactUpTo] at el
     ·exact h
    have hl:=zeR d m hm;rw [List.getLast?_eq_getElem?,<- el,Nat.add_sub_cancel] at hl
    have aT:d[m]! ≠ d[m - 1]! := by
     have:m=0∨d[m]! ≠ d[m - 1]! := by simpa [keeps] using hk
     rcases this with h | h
     ·omega
     ·exact h
    rw [List.getD,List.getElem?_append_left (by omega),hl,List.getD,List.getElem?_append_right (by omega),el,Nat.sub_self];simpa using fun h=>aT h.symm
  ·rw [compactUpTo_succ,if_neg hk,List.append_nil] at hi ⊢;exact ih i hi
theorem yu (C:List En) (h:∀ i,i+1 < C.length -> ahead (C.getD i en0) (C.getD (i+1) en0)=true):Asc C:=by
 have key:∀ k i,i+k+1 < C.length -> ahead (C.getD i en0) (C.getD (i+k+1) en0)=true:=by
  intro k
  induction k with
  | zero=>intro i hi;exact h i hi
  | succ k ih=>intro i hi;exact jn (ih i (by omega)) (h (i+k+1) (by omega))
 refine List.pairwise_iff_getElem.2 fun i j hi hj hij=>?_;have:=key (j - i - 1) i (by omega);rw [show i+(j - i - 1)+1=j by omega] at this;simpa [List.getD,hi,hj] using this
def sv (C:List En) (k:Nat):Prop:=∀ i,i+1 < k -> aj (C.getD (i+1) en0) (C.getD i en0)=false
theorem bJ {d:Array En} {C:List En} (hC:C=compactUpTo d d.size) (hp:d.toList.Pairwise (fun x y=>leE x y=true)) (h:sv C C.length):dh d.toList C 0:=by
 have m9:C.Pairwise (fun x y=>leE x y=true):=by rw [hC];exact hp.sublist (zdy d)
 have ha:Asc C:=yu C fun i hi=>zfj (zg4 m9 i (i+1) (by omega) hi) (h i hi)
 have hm:∀ x,x∈C↔x∈d.toList:=fun x=>by rw [hC];exact zaV d x
 exact Or.inr ⟨j7 ha hm,rfl,ha,hm⟩
theorem yB {d:Array En} {C:List En} (hC:C=compactUpTo d d.size) (i:Nat) (hi:i+1 < C.length) (hs:aj (C.getD i en0) (C.getD (i+1) en0)=true):dh d.toList [] 10:=by
 have hm:∀ x,x∈C -> x∈d.toList:=fun x hx=>by rw [hC] at hx;exact (zaV d x).1 hx
 have aT:C.getD i en0≠C.getD (i+1) en0:=by subst hC;exact zga d d.size i hi
 exact Or.inl ⟨⟨_,hm _ (yV C i (by omega)),_,hm _ (yV C (i+1) hi),hs,aT⟩,rfl,rfl⟩
end
section
open Go.RowKit Go.Lib
attribute [local go_sem ↓] zu zt qO xT
attribute [local go_sem] zC zs zB
def sO (B:Nat) (w w':World) (e:Ending) (L:List En):Prop:=∃ ao n c R er,e = .returned (.tuple #[.slice ao n c,.int .i64 er])/\aF w' ao n c R/\Below B w w'/\(∀ ad,ao=some ad -> B <= ad.block)/\dh L R er
theorem zaC:dh [] [] 0:=Or.inr ⟨(fun ⟨_,h,_⟩=>by cases h),rfl,List.Pairwise.nil,fun _=>Iff.rfl⟩
theorem pn (ao:Option Addr) (cap:Nat) (w:World):Calls Tryz.prog 83 #[.slice ao 0 cap,.func (.func 82) #[] #[]] w fun e w'=>e = .returned (.tuple #[])/\w'=w:=AnyF.slices_SortFunc_none Tryz.sortEn ao cap _ w
theorem pB (ao:Option Addr) (cap:Nat) (w:World):Calls Tryz.prog 84 #[.slice ao 0 cap] w fun e w'=>e = .returned (.slice ao 0 cap)/\w'=w:=by
 go_enter Tryz.func84,Tryz.ntmps84;go_wp2_with fail;go_ret;exact ⟨rfl,rfl⟩
theorem sG (ao:Option Addr) (cap:Nat) (w:World):Calls Tryz.prog 58 #[.slice ao 0 cap] w fun e w'=>e = .returned (.tuple #[.slice ao 0 cap,.int .i64 0])/\Below w.heap.size w w':=by
 have HB:Hid (Below w.heap.size w w):=Below.refl _ _;go_enter Tryz.func58,Tryz.ntmps58;go_wp2_with fail;refine (pn ao cap _).mono ?_;rintro e w1 ⟨rfl,rfl⟩;go_wp2_with fail;refine (pB ao cap _).mono ?_;rintro e w2 ⟨rfl,rfl⟩;go_wp2_with fail;go_loopw [4,11] (fun _ i wr=>i = .int .i64 0/\wr=w2) (fun _ _ _=>0)
 case atStart=>exact ⟨rfl,rfl⟩
 case round =>
  obtain ⟨rfl,rfl⟩:=hrel;go_wp2_with fail;go_ret2;exact ⟨rfl,HB.out⟩
theorem MR.esrc {W:World} {ad:Addr} {d:Array En} (M:MR W ad d) (k c:Nat) (hk:k <= d.size) (C:List En) (hC:d.toList.take k=C) (hs:∀ e∈C,e.sku.size <= maxLen) (hm:k <= 3518437208883):aF W (some ad) k c C:=by
 subst hC;refine ⟨by rw [List.length_take,Array.length_toList];omega,fun h=>(by cases h),fun ad' h t ht=>?_,hs,hm⟩;obtain rfl:=Option.some.inj h
 have e:(d.toList.take k).getD t en0=d[t]! := by
  rw [List.getD,List.getElem?_take,if_pos ht,Array.getElem?_toList,Array.getElem?_eq_getElem (by omega),getElem!_pos d t (by omega)];rfl
 rw [e];exact M.at t (by omega)
theorem zb2 (ad:Addr) (cap n:Nat) (d:Array En) (w:World) (M:MR w ad d) (hn:d.size=n) (hb:n <= 3518437208883) (nM:n <= cap) (fw:cap <= 9223372036854775807) (gL:∀ e∈d.toList,e.sku.size <= maxLen) :
  Calls Tryz.prog 58 #[.slice (some ad) n cap] w fun e w'=>sO ad.block w w' e d.toList:=by
 have HM:=hide M;have HN:=hide hn;have pY:=hide gL;have HC:=hide nM;have ti:=hide fw;clear M hn gL nM fw;go_enter Tryz.func58,Tryz.ntmps58;go_wp2_with fail;refine (jr ad cap n d _ HM.out HN.out hb).mono ?_;rintro e w1 ⟨rfl,d1,hp,hs,M1,b1⟩;have HP:=hide hp;have HS:=hide hs;have Iy:=hide M1;have aW:=hide b1;clear hp hs M1 b1
 have ID:Hid (d1.size=n):=by have:=HP.out.length_eq;rw [Array.length_toList,Array.length_toList,HN.out] at this;exact this
 go_wp2_with fail;refine (j5 ad cap n d1 _ Iy.out ID.out hb HC.out ti.out).mono ?_;rintro e w2 ⟨k,d2,rfl,M2,hk,ia,ht,b2⟩;obtain ⟨C,Es⟩:∃ C,d2.toList.take k=C:=⟨_,rfl⟩;have Kq:=hide Es;have CX:Hid (C=compactUpTo d1 d1.size):=Es.symm.trans ht;have CA:=hide M2;have cd:Hid (Below ad.block w w2):=aW.out.trans b2
 have HK:Hid (k <= d2.size):=by show _ <= _;rw [ia];exact hk
 have I4:k <= n:=by have:=ID.out;omega
 have J5:Hid (C.length=k):=by show _=_;rw [<- Es,List.length_take,Array.length_toList];have:=HK.out;omega
 have ma:Hid (∀ e∈C,e.sku.size <= maxLen):=fun e he=>by
  rw [CX.out] at he;exact pY.out e (HP.out.mem_iff.1 ((zaV d1 e).1 he))
 have J4:Hid (∀ x,x∈d1.toList↔x∈d.toList):=fun x=>HP.out.mem_iff;clear Es ht M2 b2 ia hk aW Iy;go_wp2_with fail;go_loopw [4,11] (fun _ i wr=>∃ k0:Nat,k0 <= k/\i = .int .i64 k0/\Hid (sv C k0/\Below w2.heap.size w2 wr)) (fun _ i _=>k - (intOf i).toNat)
 case atStart=>exact ⟨0,Nat.zero_le _,rfl,fun i hi=>by omega,Below.refl _ _⟩
 case round =>
  obtain ⟨k0,iA,rfl,H⟩:=hrel
  rename World=>w4
  have om:Hid (ad.block <= w2.heap.size):=Nat.le_of_lt CA.out.lt;have iC:=hide (CA.out.on H.out.2);by_cases aq:k0 < k
  ·by_cases h0:k0=0
   ·subst h0;go_wp2_with fail;refine wp_region_quiet_below (by kernel_rfl) (by kernel_rfl) ?_
    repeat (with_reducible (refine wpQuiet_step ?_);intro K hK;go_simp;(try rw [if_neg (by unfold undef;simp)]);first | (with_reducible (refine hK _ ?_);clear hK K) | (apply Exists.intro;refine ⟨fun _=>?_,hK _ ?_⟩;(fail);clear hK K))
    with_reducible (refine wpQuiet_nil ?_)
    intro w5 hw';obtain ⟨⟨dq,osq⟩,hw''⟩:=hw'
    have b5:Below w4.heap.size w4 w5:=by rw [hw''];exact below_regrown w4 dq osq
    clear hw'' dq osq;have H5:Hid (sv C (0+1)/\Below w2.heap.size w2 w5):=⟨fun i hi=>by omega,H.out.2.trans (b5.mono H.out.2.size)⟩;clear b5;go_wp2_with fail;go_roundw
    case rel=>exact ⟨0+1,by omega,by go_num,H5⟩
    case measure=>simp [intOf];omega
   ·obtain ⟨j,hj⟩:∃ j,k0 - 1=j:=⟨_,rfl⟩
    have hz:IntKind.i64.wrap ((k0:Int) - 1)=(j:Int):=by rw [IntKind.wrap_i64];omega
    have iR:j < k:=by omega
    have Mv:decide ((0:Int) < (k0:Int))=true:=decide_eq_true (by omega)
    have L9:0 < k0:=by omega
    have Hj:Hid (k0=j+1):=by show _=_;omega
    have S4:=iC.out.esrc k cap HK.out C Kq.out ma.out (by omega);have A0:=hide (S4.2.2.1 ad rfl k0 aq);have A1:=hide (S4.2.2.1 ad rfl j iR);obtain ⟨x,Hx⟩:∃ x,Hid (C.getD k0 en0=x):=⟨_,rfl⟩;obtain ⟨y,Hy⟩:∃ y,Hid (C.getD j en0=y):=⟨_,rfl⟩;rw [Hx.out] at A0;rw [Hy.out] at A1;clear S4 hj h0;have l0:∀ d os,(io (.pointer (some (ad.add (k0 * 4))))).run Tryz.prog (Sort.grow (redrawn w4 d) os) = .ok (.agg (DC x)) (Sort.grow (redrawn w4 d) os):=fun d os=>xw (A0.out.on (below_regrown w4 d os));have l1:∀ d os,(io (.pointer (some (ad.add (j * 4))))).run Tryz.prog (Sort.grow (redrawn w4 d) os) = .ok (.agg (DC y)) (Sort.grow (redrawn w4 d) os):=fun d os=>xw (A1.out.on (below_regrown w4 d os));obtain ⟨q,hq⟩:∃ q,aj y x=q:=⟨_,rfl⟩
    cases q with
    | false =>
     have HQ:=hide hq;go_wp2_with fail;refine wp_region_quiet_below (by kernel_rfl) (by kernel_rfl) ?_
     repeat (with_reducible (refine wpQuiet_step ?_);intro K hK;go_simp;(try rw [if_neg (by unfold undef;simp)]);first | (with_reducible (refine hK _ ?_);clear hK K) | (apply Exists.intro;refine ⟨fun _=>?_,hK _ ?_⟩;(fail);clear hK K))
     with_reducible (refine wpQuiet_nil ?_)
     intro w5 hw';obtain ⟨⟨dq,osq⟩,hw''⟩:=hw'
     have b5:Below w4.heap.size w4 w5:=by rw [hw''];exact below_regrown w4 dq osq
     clear hw'' dq osq
     have H5:Hid (sv C (k0+1)/\Below w2.heap.size w2 w5):=⟨fun i hi=>by
      by_cases e:i=j
      ·subst e;rw [<- Hj.out,Hx.out,Hy.out,bK];exact HQ.out
      ·exact H.out.1 i (by have:=Hj.out;omega),H.out.2.trans (b5.mono H.out.2.size)⟩
     clear b5 l0 l1;go_wp2_with fail;go_roundw
     case rel=>exact ⟨k0+1,by omega,by go_num,H5⟩
     case measure=>simp [intOf];omega
    | true =>
     have HF:Hid (dh d.toList [] 10):=(yB CX.out j (by rw [J5.out];have:=Hj.out;omega) (by rw [<- Hj.out,Hx.out,Hy.out];exact hq)).perm J4.out;go_wp2_with fail;refine wp_region_quiet_below (by kernel_rfl) (by kernel_rfl) ?_
     repeat (with_reducible (refine wpQuiet_step ?_);intro K hK;go_simp;(try rw [if_neg (by unfold undef;simp)]);first | (with_reducible (refine hK _ ?_);clear hK K) | (apply Exists.intro;refine ⟨fun _=>?_,hK _ ?_⟩;(fail);clear hK K))
     with_reducible (refine wpQuiet_nil ?_)
     intro w5 hw';obtain ⟨⟨dq,osq⟩,hw''⟩:=hw'
     have b5:Below w4.heap.size w4 w5:=by rw [hw''];exact below_regrown w4 dq osq
     clear hw'' dq osq;have ee:Hid (Below ad.block w w5):=cd.out.trans ((H.out.2.trans (b5.mono H.out.2.size)).mono om.out);clear b5 l0 l1;go_wp2_with fail;go_ret2;exact ⟨none,0,0,[],10,rfl,aF.none _,ee.out,fun ad h=>(by cases h),HF.out⟩
  ·obtain rfl:k0=k:=by omega
   have HF:Hid (dh d.toList C 0):=(bJ CX.out HS.out (by rw [J5.out];exact H.out.1)).perm J4.out;have HE:=hide (iC.out.esrc k0 cap HK.out C Kq.out ma.out (by omega));have ee:Hid (Below ad.block w w4):=cd.out.trans (H.out.2.mono om.out);go_wp2_with fail;go_ret2;exact ⟨some ad,k0,cap,C,0,rfl,HE.out,ee.out,fun ad' h=>by obtain rfl:=Option.some.inj h;exact Nat.le_refl _,HF.out⟩
end
end Go.Proofs.YtcilfelgpmfehaaGreat.K
