/- LCpt LCp LRis LSor LSo2 LShg LCct LUp LUn TFg SXk -/
import Derived.Test.YtjffpimfngdggaaGreatFf20
import Derived.Deep.LoopGhost
import Derived.Shelf.SlSortCmp.NoneTotal
import Derived.Lib.SliceRun
import Derived.Shelf.Spec.SlicesGrow
import Derived.Laws.AppendOwnNone
set_option maxRecDepth 100000
set_option maxHeartbeats 8000000
namespace Go.Proofs.YtjffpimfngdggaaGreat.K
section
open Go.RowKit Go.Lib
attribute [local go_sem ↓] zy zx qB
attribute [local go_sem] zJ zu zH
theorem qE (p:Addr) (i j:Nat):(p.add i).add j=p.add (i+j):=by
 unfold Addr.add;split <;> split <;> simp_all [Nat.add_assoc]
def EP (a:Value):Sem Value:=Builtin.clear_ #[22] 0 #[a]
theorem ziN (a:Value):Builtin.clear_ #[22] 0 #[a]=EP a:=rfl
attribute [local go_sem ↓] ziN
def dV (w w':World) (e:Ending) (ad:Addr) (cap:Nat) (d:Array En):Prop:=
 ∃ k d',e = .returned (.slice (some ad) k cap)/\MR w' ad d'/\k <= d.size/\d'.size=d.size/\d'.toList.take k=compactUpTo d d.size/\Below ad.block w w'
theorem jd {w w':World} {ad:Addr} {cap n:Nat} {d:Array En} (hn:d.size=n) (M:MR w' ad d) (hb:Below ad.block w w') (aW:∀ j,j < d.size -> keeps d j=true):dV w w' (.returned (.slice (some ad) n cap)) ad cap d:=
 ⟨n,d,rfl,M,by omega,rfl,by rw [compactUpTo_all d _ aW,range_map_get,List.take_of_length_le (by simp;omega)],hb⟩
theorem zaM {d dk d':Array En} {n kk:Nat} (hI:CompInv d n kk dk) (hn:d.size=n) (hs:d'.size=dk.size) (hl:∀ j,j < kk -> d'[j]! = dk[j]!):d'.toList.take kk=compactUpTo d d.size:=by
 rw [hn];have oC:=hI.lt;have dE:=hI.size;apply List.ext_getElem?;intro j;by_cases hj:j < kk
 ·rw [hI.low j hj,<- hl j hj,List.getElem?_take,if_pos hj,Array.getElem?_toList,Array.getElem?_eq_getElem (by omega),getElem!_pos d' j (by omega)]
 ·rw [List.getElem?_eq_none (by rw [List.length_take];omega),List.getElem?_eq_none (by rw [hI.len];omega)]
theorem kA (ad:Addr) (cap n:Nat) (d:Array En) (w:World) (M:MR w ad d) (hn:d.size=n) (hb:n <= 3518437208883) (mY:n <= cap) (fS:cap <= 9223372036854775807) :
  Calls Tryz.prog 235 #[.slice (some ad) n cap] w fun e w'=>dV w w' e ad cap d:=by
 have HM:=hide M;have HN:=hide hn;have ry:Hid (ad.block <= w.heap.size):=Nat.le_of_lt M.lt;clear M hn;by_cases h2:n < 2
 ·have HF:Hid (dV w w (.returned (.slice (some ad) n cap)) ad cap d):=jd HN.out HM.out (Below.refl _ _) (fun j hj=>keeps_lt_one d j (by have:=HN.out;omega));go_enter Tryz.func235,Tryz.ntmps235;go_wp2_with fail;go_ret;exact HF.out
 ·go_enter Tryz.func235,Tryz.ntmps235;go_wp2_with fail;go_loopg [3] n (fun g s wr=>∃ k:Nat,1 <= k/\k <= n/\n - k <= g/\s = .int .i64 k/\Hid (Below w.heap.size w wr/\∀ j,j < k -> keeps d j=true))
  case atStart=>exact ⟨1,Nat.le_refl _,by omega,by omega,rfl,Below.refl _ _,keeps_lt_one d⟩
  case round =>
   obtain ⟨k,iU,hk,hg,rfl,H⟩:=hrel
   rename World=>w4
   have lN:=hide (HM.out.on H.out.1);by_cases ak:k < n
   ·obtain ⟨j,hj⟩:∃ j,k - 1=j:=⟨_,rfl⟩
    have hz:IntKind.i64.wrap ((k:Int) - 1)=(j:Int):=by rw [IntKind.wrap_i64];omega
    have m8:j < n:=by omega
    have A0:=hide (lN.out.at k (by rw [HN.out];exact ak));have A1:=hide (lN.out.at j (by rw [HN.out];exact m8));obtain ⟨x,Hx⟩:∃ x,Hid (d[k]! = x):=⟨_,rfl⟩;obtain ⟨y,Hy⟩:∃ y,Hid (d[j]! = y):=⟨_,rfl⟩;rw [Hx.out] at A0;rw [Hy.out] at A1;have Hj:=hide hj;clear hj;have l0:∀ d os,(dJ (.pointer (some (ad.add (k * 4))))).run Tryz.prog (Sort.grow (redrawn w4 d) os) = .ok (EV x) (Sort.grow (redrawn w4 d) os):=fun d os=>zB (A0.out.on (below_regrown w4 d os));have l1:∀ d os,(dJ (.pointer (some (ad.add (j * 4))))).run Tryz.prog (Sort.grow (redrawn w4 d) os) = .ok (EV y) (Sort.grow (redrawn w4 d) os):=fun d os=>zB (A1.out.on (below_regrown w4 d os));obtain ⟨q,hq⟩:∃ q,eqE x y=q:=⟨_,rfl⟩
    cases q with
    | false =>
     have HK:Hid (keeps d k=true):=keeps_pos (by rw [Hj.out,Hx.out,Hy.out];intro h;rw [(kz x y).2 h] at hq;cases hq);go_wp2_with fail;refine wp_region_quiet_below (by kernel_rfl) (by kernel_rfl) ?_
     repeat (with_reducible (refine wpQuiet_step ?_);intro K hK;go_simp;(try rw [if_neg (by unfold undef;simp)]);first | (with_reducible (refine hK _ ?_);clear hK K) | (apply Exists.intro;refine ⟨fun _=>?_,hK _ ?_⟩;(fail);clear hK K))
     with_reducible (refine wpQuiet_nil ?_)
     intro w5 hw';obtain ⟨⟨dq,osq⟩,hw''⟩:=hw'
     have b5:Below w4.heap.size w4 w5:=by rw [hw''];exact below_regrown w4 dq osq
     clear hw'' dq osq
     have H5:Hid (Below w.heap.size w w5/\∀ j,j < k+1 -> keeps d j=true):=⟨H.out.1.trans (b5.mono H.out.1.size),fun i hi=>by
      by_cases e:i=k
      ·rw [e];exact HK.out
      ·exact H.out.2 i (by omega)⟩
     clear b5 l0 l1;go_wp2_with fail;go_roundg (n - (k+1))
     case measure=>omega
     case rel=>exact ⟨k+1,by omega,by omega,Nat.le_refl _,by go_num,H5⟩
    | true =>
     have HK:Hid (keeps d k=false):=keeps_neg (by omega) (by rw [Hj.out,Hx.out,Hy.out];exact (kz x y).1 hq);go_wp2_with fail;refine wp_region_quiet_below (by kernel_rfl) (by kernel_rfl) ?_
     repeat (with_reducible (refine wpQuiet_step ?_);intro K hK;go_simp;(try rw [if_neg (by unfold undef;simp)]);first | (with_reducible (refine hK _ ?_);clear hK K) | (apply Exists.intro;refine ⟨fun _=>?_,hK _ ?_⟩;(fail);clear hK K))
     with_reducible (refine wpQuiet_nil ?_)
     intro w5 hw';obtain ⟨⟨dq,osq⟩,hw''⟩:=hw'
     have b5:Below w4.heap.size w4 w5:=by rw [hw''];exact below_regrown w4 dq osq
     clear hw'' dq osq;have EA:=hide (lN.out.on b5);have cZ:Hid (Below ad.block w w5):=(H.out.1.mono ry.out).trans (b5.mono (Nat.le_trans ry.out H.out.1.size));have ru:Hid (CompInv d (k+1) k d):=CompInv.start H.out.2 HK.out;clear b5 l0 l1 hq;go_wp2_with fail;go_loopg [3,5] n (fun g s3 s5 wr=>∃ (kk k2:Nat) (dk:Array En),1 <= k2/\k+k2 <= n/\kk < n/\n - (k+k2) <= g/\s3 = .int .i64 kk/\s5 = .int .i64 k2/\Hid (MR wr ad dk/\CompInv d (k+k2) kk dk/\Below ad.block w wr))
     case atStart=>exact ⟨k,1,d,Nat.le_refl _,by omega,ak,by omega,rfl,rfl,EA.out,ru.out,cZ.out⟩
     case round =>
      obtain ⟨kk,k2,dk,tE,KP,oC,lV,rfl,rfl,HI⟩:=hrel
      rename World=>w6
      clear EA ru cZ lN A0 A1;have HD:Hid (dk.size=n):=HI.out.2.1.size.trans HN.out;by_cases hlt2:k2 < n - k
      ·obtain ⟨j2,IW⟩:∃ j2,k2 - 1=j2:=⟨_,rfl⟩
       have eI:IntKind.i64.wrap ((k2:Int) - 1)=(j2:Int):=by rw [IntKind.wrap_i64];omega
       have Ju:j2 < n - k:=by omega
       have A0:=hide (HI.out.1.at (k+k2) (by rw [HD.out];omega));have A1:=hide (HI.out.1.at (k+j2) (by rw [HD.out];omega));have In:=HI.out.2.1.lt;obtain ⟨u,Hu⟩:∃ u,Hid (d[k+k2]! = u):=⟨_,rfl⟩;obtain ⟨v,Hv⟩:∃ v,Hid (d[k+j2]! = v):=⟨_,rfl⟩;rw [HI.out.2.1.high (k+k2) (by omega),Hu.out,Nat.add_mul,<- qE] at A0;rw [HI.out.2.1.high (k+j2) (by omega),Hv.out,Nat.add_mul,<- qE] at A1
       have Eb:Hid (k+k2 - 1=k+j2):=by show _=_;omega
       clear IW;have l0:∀ d os,(dJ (.pointer (some ((ad.add (k * 4)).add (k2 * 4))))).run Tryz.prog (Sort.grow (redrawn w6 d) os) = .ok (EV u) (Sort.grow (redrawn w6 d) os):=fun d os=>zB (A0.out.on (below_regrown w6 d os));have l1:∀ d os,(dJ (.pointer (some ((ad.add (k * 4)).add (j2 * 4))))).run Tryz.prog (Sort.grow (redrawn w6 d) os) = .ok (EV v) (Sort.grow (redrawn w6 d) os):=fun d os=>zB (A1.out.on (below_regrown w6 d os));obtain ⟨q2,m7⟩:∃ q2,eqE u v=q2:=⟨_,rfl⟩
       cases q2 with
       | true =>
        have fQ:Hid (CompInv d (k+k2+1) kk dk):=HI.out.2.1.skip (keeps_neg (by omega) (by rw [Eb.out,Hu.out,Hv.out];exact (kz u v).1 m7));go_wp2_with fail;refine wp_region_quiet_below (by kernel_rfl) (by kernel_rfl) ?_
        repeat (with_reducible (refine wpQuiet_step ?_);intro K hK;go_simp;(try rw [if_neg (by unfold undef;simp)]);first | (with_reducible (refine hK _ ?_);clear hK K) | (apply Exists.intro;refine ⟨fun _=>?_,hK _ ?_⟩;(fail);clear hK K))
        with_reducible (refine wpQuiet_nil ?_)
        intro w7 hw';obtain ⟨⟨dq,osq⟩,hw''⟩:=hw'
        have b7:Below w6.heap.size w6 w7:=by rw [hw''];exact below_regrown w6 dq osq
        clear hw'' dq osq;have H7:Hid (MR w7 ad dk/\CompInv d (k+(k2+1)) kk dk/\Below ad.block w w7):=⟨HI.out.1.on b7,fQ.out,HI.out.2.2.trans (b7.mono (Nat.le_of_lt HI.out.1.lt))⟩;clear b7 l0 l1;go_wp2_with fail;go_roundg (n - (k+(k2+1)))
        case measure=>omega
        case rel=>exact ⟨kk,k2+1,dk,by omega,by omega,oC,Nat.le_refl _,rfl,by go_num,H7⟩
       | false =>
        have fQ:Hid (CompInv d (k+k2+1) (kk+1) (dk.setIfInBounds kk u)):=by
         have:=HI.out.2.1.keep (by rw [HN.out];omega) (keeps_pos (by rw [Eb.out,Hu.out,Hv.out];intro h;rw [(kz u v).2 h] at m7;cases m7));rwa [Hu.out] at this
        go_wp2_with fail;refine wp_region_quiet_below (by kernel_rfl) (by kernel_rfl) ?_
        repeat (with_reducible (refine wpQuiet_step ?_);intro K hK;go_simp;(try rw [if_neg (by unfold undef;simp)]);first | (with_reducible (refine hK _ ?_);clear hK K) | (apply Exists.intro;refine ⟨fun _=>?_,hK _ ?_⟩;(fail);clear hK K))
        with_reducible (refine wpQuiet_nil ?_)
        intro w7 hw';obtain ⟨⟨dq,osq⟩,hw''⟩:=hw'
        have b7:Below w6.heap.size w6 w7:=by rw [hw''];exact below_regrown w6 dq osq
        clear hw'' dq osq;have l7:=zB (A0.out.on b7);obtain ⟨w8,cd,M8,B8,_⟩:=(HI.out.1.on b7).store kk u (by rw [HD.out];exact oC);have H8:Hid (MR w8 ad (dk.setIfInBounds kk u)/\CompInv d (k+(k2+1)) (kk+1) (dk.setIfInBounds kk u)/\Below ad.block w w8):=⟨M8,fQ.out,(HI.out.2.2.trans (b7.mono (Nat.le_of_lt HI.out.1.lt))).trans B8⟩;clear b7 l0 l1 M8 B8;go_wp2_with fail;go_roundg (n - (k+(k2+1)))
        case measure=>omega
        case rel=>exact ⟨kk+1,k2+1,dk.setIfInBounds kk u,by omega,by omega,by omega,Nat.le_refl _,by go_num,by go_num,H8⟩
      ·have BJ:k+k2=n:=by omega
       obtain ⟨w7,d',fT,M7,tY,Ez,B7,_⟩:=HI.out.1.clear kk (by rw [HD.out];exact oC) (cap - kk);rw [HD.out] at fT;have Jf:(EP (.slice (some (ad.add (kk * 4))) (n - kk) (cap - kk))).run Tryz.prog w6 = .ok (.tuple #[]) w7:=fT 0
       have HF:Hid (dV w w7 (.returned (.slice (some ad) kk cap)) ad cap d):=by
        have hI:=HI.out.2.1;rw [BJ] at hI;exact ⟨kk,d',rfl,M7,by rw [HN.out];omega,tY.trans hI.size,zaM hI HN.out tY Ez,HI.out.2.2.trans B7⟩
       clear fT M7 tY Ez B7;go_wp2_with fail;go_ret;exact HF.out
   ·have HF:Hid (dV w w4 (.returned (.slice (some ad) n cap)) ad cap d):=jd HN.out lN.out (H.out.1.mono ry.out) (fun j hj=>H.out.2 j (by have:=HN.out;omega));go_wp2_with fail;go_ret;exact HF.out
end
section
open Go.RowKit Go.Lib

theorem zfM (d:Array En):(compactUpTo d d.size).Sublist d.toList:=by
 have h:(compactUpTo d d.size).Sublist ((List.range d.size).map (d[·]!)):=List.filter_sublist.map _;rwa [range_map_get] at h
theorem ziZ (d:Array En) (i:Nat) (h:i < d.size):d[i]! = d[i]:=getElem!_pos d i h
theorem ziJ (d:Array En) (m:Nat):m <= d.size -> ∀ j,j < m -> d[j]! ∈ compactUpTo d m:=by
 induction m with
 | zero=>intro _ j hj;omega
 | succ m ih =>
  intro hm j hj;rw [compactUpTo_succ];by_cases e:j=m
  ·subst e;by_cases hk:keeps d j=true
   ·rw [if_pos hk];simp
   ·rw [if_neg hk,List.append_nil]
    have lI:¬ (j=0∨d[j]! ≠ d[j - 1]!):=by simpa [keeps] using hk
    have h0:¬ j=0:=fun h=>lI (Or.inl h);have h1:d[j]! = d[j - 1]! := Classical.byContradiction fun h=>lI (Or.inr h);rw [h1];exact ih (by omega) (j - 1) (by omega)
  ·exact List.mem_append_left _ (ih (by omega) j (by omega))
theorem zcy (d:Array En) (x:En):x∈compactUpTo d d.size↔x∈d.toList:=by
 constructor
 ·exact fun h=>(zfM d).mem h
 ·intro h;obtain ⟨i,hi,rfl⟩:=List.mem_iff_getElem.1 h
  have lO:i < d.size:=by simpa using hi
  have:=ziJ d d.size (Nat.le_refl _) i lO;rw [ziZ d i lO] at this;simpa using this
theorem zhn (d:Array En) (m:Nat):0 < m -> (compactUpTo d m).getLast? = some d[m - 1]! := by
 induction m with
 | zero=>intro h;omega
 | succ m ih =>
  intro _;rw [compactUpTo_succ];by_cases hk:keeps d m=true
  ·rw [if_pos hk];simp
  ·rw [if_neg hk,List.append_nil]
   have lI:¬ (m=0∨d[m]! ≠ d[m - 1]!):=by simpa [keeps] using hk
   have h0:¬ m=0:=fun h=>lI (Or.inl h);have h1:d[m]! = d[m - 1]! := Classical.byContradiction fun h=>lI (Or.inr h);rw [ih (by omega),show m+1 - 1=m by omega,h1]
theorem ziK (d:Array En) (m:Nat):∀ i,i+1 < (compactUpTo d m).length -> (compactUpTo d m).getD i en0≠(compactUpTo d m).getD (i+1) en0:=by
 induction m with
 | zero=>intro i hi;simp [compactUpTo] at hi
 | succ m ih =>
  intro i hi;by_cases hk:keeps d m=true
  ·rw [compactUpTo_succ,if_pos hk] at hi ⊢;rw [List.length_append,List.length_singleton] at hi;by_cases e:i+1 < (compactUpTo d m).length
   ·have:=ih i e;simpa [List.getD,List.getElem?_append_left,e,show i < (compactUpTo d m).length by omega] using this
   ·have el:i+1=(compactUpTo d m).length:=by omega
    have hm:0 < m:=by
     rcases Nat.eq_zero_or_pos m with h | h
     ·subst h;simp [compactUpTo] at el
     ·exact h
    have hl:=zhn d m hm;rw [List.getLast?_eq_getElem?,<- el,Nat.add_sub_cancel] at hl
    have cr:d[m]! ≠ d[m - 1]! := by
     have:m=0∨d[m]! ≠ d[m - 1]! := by simpa [keeps] using hk
     rcases this with h | h
     ·omega
     ·exact h
    rw [List.getD,List.getElem?_append_left (by omega),hl,List.getD,List.getElem?_append_right (by omega),el,Nat.sub_self];simpa using fun h=>cr h.symm
  ·rw [compactUpTo_succ,if_neg hk,List.append_nil] at hi ⊢;exact ih i hi
theorem bM (C:List En) (h:∀ i,i+1 < C.length -> ahead (C.getD i en0) (C.getD (i+1) en0)=true):Asc C:=by
 have key:∀ k i,i+k+1 < C.length -> ahead (C.getD i en0) (C.getD (i+k+1) en0)=true:=by
  intro k
  induction k with
  | zero=>intro i hi;exact h i hi
  | succ k ih=>intro i hi;exact yO (ih i (by omega)) (h (i+k+1) (by omega))
 refine List.pairwise_iff_getElem.2 fun i j hi hj rD=>?_;have:=key (j - i - 1) i (by omega);rw [show i+(j - i - 1)+1=j by omega] at this;simpa [List.getD,hi,hj] using this
def uH (C:List En) (k:Nat):Prop:=∀ i,i+1 < k -> aq (C.getD (i+1) en0) (C.getD i en0)=false
theorem za9 {d:Array En} {C:List En} (hC:C=compactUpTo d d.size) (hp:d.toList.Pairwise (fun x y=>leE x y=true)) (h:uH C C.length):dK d.toList C 0:=by
 have iV:C.Pairwise (fun x y=>leE x y=true):=by rw [hC];exact hp.sublist (zfM d)
 have ha:Asc C:=bM C fun i hi=>zhQ (zjU iV i (i+1) (by omega) hi) (h i hi)
 have hm:∀ x,x∈C↔x∈d.toList:=fun x=>by rw [hC];exact zcy d x
 exact Or.inr ⟨kC ha hm,rfl,ha,hm⟩
theorem bZ {d:Array En} {C:List En} (hC:C=compactUpTo d d.size) (i:Nat) (hi:i+1 < C.length) (hs:aq (C.getD i en0) (C.getD (i+1) en0)=true):dK d.toList [] 10:=by
 have hm:∀ x,x∈C -> x∈d.toList:=fun x hx=>by rw [hC] at hx;exact (zcy d x).1 hx
 have cr:C.getD i en0≠C.getD (i+1) en0:=by subst hC;exact ziK d d.size i hi
 exact Or.inl ⟨⟨_,hm _ (zaI C i (by omega)),_,hm _ (zaI C (i+1) hi),hs,cr⟩,rfl,rfl⟩
end
section
open Go.RowKit Go.Lib
attribute [local go_sem ↓] zy zx xG xY
attribute [local go_sem] zJ zu zH
def uF (B:Nat) (w w':World) (e:Ending) (L:List En):Prop:=∃ ao n c R er,e = .returned (.tuple #[.slice ao n c,.int .i64 er])/\aD w' ao n c R/\Below B w w'/\(∀ ad,ao=some ad -> B <= ad.block)/\dK L R er
theorem zb5:dK [] [] 0:=Or.inr ⟨(fun ⟨_,h,_⟩=>by cases h),rfl,List.Pairwise.nil,fun _=>Iff.rfl⟩
theorem su (ao:Option Addr) (cap:Nat) (w:World):Calls Tryz.prog 234 #[.slice ao 0 cap,.func (.func 104) #[] #[]] w fun e w'=>e = .returned (.tuple #[])/\w'=w:=AnyF.slices_SortFunc_none Tryz.sortEn ao cap _ w
theorem sX (ao:Option Addr) (cap:Nat) (w:World):Calls Tryz.prog 235 #[.slice ao 0 cap] w fun e w'=>e = .returned (.slice ao 0 cap)/\w'=w:=by
 go_enter Tryz.func235,Tryz.ntmps235;go_wp2_with fail;go_ret;exact ⟨rfl,rfl⟩
theorem uG (ao:Option Addr) (cap:Nat) (w:World):Calls Tryz.prog 208 #[.slice ao 0 cap] w fun e w'=>e = .returned (.tuple #[.slice ao 0 cap,.int .i64 0])/\Below w.heap.size w w':=by
 have HB:Hid (Below w.heap.size w w):=Below.refl _ _;go_enter Tryz.func208,Tryz.ntmps208;go_wp2_with fail;refine (su ao cap _).mono ?_;rintro e w1 ⟨rfl,rfl⟩;go_wp2_with fail;refine (sX ao cap _).mono ?_;rintro e w2 ⟨rfl,rfl⟩;go_wp2_with fail;go_loopw [4,11] (fun _ i wr=>i = .int .i64 0/\wr=w2) (fun _ _ _=>0)
 case atStart=>exact ⟨rfl,rfl⟩
 case round =>
  obtain ⟨rfl,rfl⟩:=hrel;go_wp2_with fail;go_ret2;exact ⟨rfl,HB.out⟩
theorem MR.esrc {W:World} {ad:Addr} {d:Array En} (M:MR W ad d) (k c:Nat) (hk:k <= d.size) (C:List En) (hC:d.toList.take k=C) (hs:∀ e∈C,e.sku.size <= maxLen) (hm:k <= 3518437208883):aD W (some ad) k c C:=by
 subst hC;refine ⟨by rw [List.length_take,Array.length_toList];omega,fun h=>(by cases h),fun ad' h t ht=>?_,hs,hm⟩;obtain rfl:=Option.some.inj h
 have e:(d.toList.take k).getD t en0=d[t]! := by
  rw [List.getD,List.getElem?_take,if_pos ht,Array.getElem?_toList,Array.getElem?_eq_getElem (by omega),getElem!_pos d t (by omega)];rfl
 rw [e];exact M.at t (by omega)
theorem zdS (ad:Addr) (cap n:Nat) (d:Array En) (w:World) (M:MR w ad d) (hn:d.size=n) (hb:n <= 3518437208883) (mY:n <= cap) (fS:cap <= 9223372036854775807) (ic:∀ e∈d.toList,e.sku.size <= maxLen) :
  Calls Tryz.prog 208 #[.slice (some ad) n cap] w fun e w'=>uF ad.block w w' e d.toList:=by
 have HM:=hide M;have HN:=hide hn;have u2:=hide ic;have HC:=hide mY;have Ah:=hide fS;clear M hn ic mY fS;go_enter Tryz.func208,Tryz.ntmps208;go_wp2_with fail;refine (jU ad cap n d _ HM.out HN.out hb).mono ?_;rintro e w1 ⟨rfl,d1,hp,hs,M1,b1⟩;have HP:=hide hp;have HS:=hide hs;have Fu:=hide M1;have aM:=hide b1;clear hp hs M1 b1
 have Kt:Hid (d1.size=n):=by have:=HP.out.length_eq;rw [Array.length_toList,Array.length_toList,HN.out] at this;exact this
 go_wp2_with fail;refine (kA ad cap n d1 _ Fu.out Kt.out hb HC.out Ah.out).mono ?_;rintro e w2 ⟨k,d2,rfl,M2,hk,ni,ht,b2⟩;obtain ⟨C,Fx⟩:∃ C,d2.toList.take k=C:=⟨_,rfl⟩;have Lt:=hide Fx;have DP:Hid (C=compactUpTo d1 d1.size):=Fx.symm.trans ht;have um:=hide M2;have cu:Hid (Below ad.block w w2):=aM.out.trans b2
 have HK:Hid (k <= d2.size):=by show _ <= _;rw [ni];exact hk
 have KP:k <= n:=by have:=Kt.out;omega
 have Lw:Hid (C.length=k):=by show _=_;rw [<- Fx,List.length_take,Array.length_toList];have:=HK.out;omega
 have tI:Hid (∀ e∈C,e.sku.size <= maxLen):=fun e he=>by
  rw [DP.out] at he;exact u2.out e (HP.out.mem_iff.1 ((zcy d1 e).1 he))
 have Ko:Hid (∀ x,x∈d1.toList↔x∈d.toList):=fun x=>HP.out.mem_iff;clear Fx ht M2 b2 ni hk aM Fu;go_wp2_with fail;go_loopw [4,11] (fun _ i wr=>∃ k0:Nat,k0 <= k/\i = .int .i64 k0/\Hid (uH C k0/\Below w2.heap.size w2 wr)) (fun _ i _=>k - (intOf i).toNat)
 case atStart=>exact ⟨0,Nat.zero_le _,rfl,fun i hi=>by omega,Below.refl _ _⟩
 case round =>
  obtain ⟨k0,gL,rfl,H⟩:=hrel
  rename World=>w4
  have ry:Hid (ad.block <= w2.heap.size):=Nat.le_of_lt um.out.lt;have lN:=hide (um.out.on H.out.2);by_cases ak:k0 < k
  ·by_cases h0:k0=0
   ·subst h0;go_wp2_with fail;refine wp_region_quiet_below (by kernel_rfl) (by kernel_rfl) ?_
    repeat (with_reducible (refine wpQuiet_step ?_);intro K hK;go_simp;(try rw [if_neg (by unfold undef;simp)]);first | (with_reducible (refine hK _ ?_);clear hK K) | (apply Exists.intro;refine ⟨fun _=>?_,hK _ ?_⟩;(fail);clear hK K))
    with_reducible (refine wpQuiet_nil ?_)
    intro w5 hw';obtain ⟨⟨dq,osq⟩,hw''⟩:=hw'
    have b5:Below w4.heap.size w4 w5:=by rw [hw''];exact below_regrown w4 dq osq
    clear hw'' dq osq;have H5:Hid (uH C (0+1)/\Below w2.heap.size w2 w5):=⟨fun i hi=>by omega,H.out.2.trans (b5.mono H.out.2.size)⟩;clear b5;go_wp2_with fail;go_roundw
    case rel=>exact ⟨0+1,by omega,by go_num,H5⟩
    case measure=>simp [intOf];omega
   ·obtain ⟨j,hj⟩:∃ j,k0 - 1=j:=⟨_,rfl⟩
    have hz:IntKind.i64.wrap ((k0:Int) - 1)=(j:Int):=by rw [IntKind.wrap_i64];omega
    have m8:j < k:=by omega
    have Fm:decide ((0:Int) < (k0:Int))=true:=decide_eq_true (by omega)
    have DT:0 < k0:=by omega
    have Hj:Hid (k0=j+1):=by show _=_;omega
    have S4:=lN.out.esrc k cap HK.out C Lt.out tI.out (by omega);have A0:=hide (S4.2.2.1 ad rfl k0 ak);have A1:=hide (S4.2.2.1 ad rfl j m8);obtain ⟨x,Hx⟩:∃ x,Hid (C.getD k0 en0=x):=⟨_,rfl⟩;obtain ⟨y,Hy⟩:∃ y,Hid (C.getD j en0=y):=⟨_,rfl⟩;rw [Hx.out] at A0;rw [Hy.out] at A1;clear S4 hj h0;have l0:∀ d os,(lS (.pointer (some (ad.add (k0 * 4))))).run Tryz.prog (Sort.grow (redrawn w4 d) os) = .ok (.agg (DC x)) (Sort.grow (redrawn w4 d) os):=fun d os=>xK (A0.out.on (below_regrown w4 d os));have l1:∀ d os,(lS (.pointer (some (ad.add (j * 4))))).run Tryz.prog (Sort.grow (redrawn w4 d) os) = .ok (.agg (DC y)) (Sort.grow (redrawn w4 d) os):=fun d os=>xK (A1.out.on (below_regrown w4 d os));obtain ⟨q,hq⟩:∃ q,aq y x=q:=⟨_,rfl⟩
    cases q with
    | false =>
     have HQ:=hide hq;go_wp2_with fail;refine wp_region_quiet_below (by kernel_rfl) (by kernel_rfl) ?_
     repeat (with_reducible (refine wpQuiet_step ?_);intro K hK;go_simp;(try rw [if_neg (by unfold undef;simp)]);first | (with_reducible (refine hK _ ?_);clear hK K) | (apply Exists.intro;refine ⟨fun _=>?_,hK _ ?_⟩;(fail);clear hK K))
     with_reducible (refine wpQuiet_nil ?_)
     intro w5 hw';obtain ⟨⟨dq,osq⟩,hw''⟩:=hw'
     have b5:Below w4.heap.size w4 w5:=by rw [hw''];exact below_regrown w4 dq osq
     clear hw'' dq osq
     have H5:Hid (uH C (k0+1)/\Below w2.heap.size w2 w5):=⟨fun i hi=>by
      by_cases e:i=j
      ·subst e;rw [<- Hj.out,Hx.out,Hy.out,zba];exact HQ.out
      ·exact H.out.1 i (by have:=Hj.out;omega),H.out.2.trans (b5.mono H.out.2.size)⟩
     clear b5 l0 l1;go_wp2_with fail;go_roundw
     case rel=>exact ⟨k0+1,by omega,by go_num,H5⟩
     case measure=>simp [intOf];omega
    | true =>
     have HF:Hid (dK d.toList [] 10):=(bZ DP.out j (by rw [Lw.out];have:=Hj.out;omega) (by rw [<- Hj.out,Hx.out,Hy.out];exact hq)).perm Ko.out;go_wp2_with fail;refine wp_region_quiet_below (by kernel_rfl) (by kernel_rfl) ?_
     repeat (with_reducible (refine wpQuiet_step ?_);intro K hK;go_simp;(try rw [if_neg (by unfold undef;simp)]);first | (with_reducible (refine hK _ ?_);clear hK K) | (apply Exists.intro;refine ⟨fun _=>?_,hK _ ?_⟩;(fail);clear hK K))
     with_reducible (refine wpQuiet_nil ?_)
     intro w5 hw';obtain ⟨⟨dq,osq⟩,hw''⟩:=hw'
     have b5:Below w4.heap.size w4 w5:=by rw [hw''];exact below_regrown w4 dq osq
     clear hw'' dq osq;have cZ:Hid (Below ad.block w w5):=cu.out.trans ((H.out.2.trans (b5.mono H.out.2.size)).mono ry.out);clear b5 l0 l1;go_wp2_with fail;go_ret2;exact ⟨none,0,0,[],10,rfl,aD.none _,cZ.out,fun ad h=>(by cases h),HF.out⟩
  ·obtain rfl:k0=k:=by omega
   have HF:Hid (dK d.toList C 0):=(za9 DP.out HS.out (by rw [Lw.out];exact H.out.1)).perm Ko.out;have HE:=hide (lN.out.esrc k0 cap HK.out C Lt.out tI.out (by omega));have cZ:Hid (Below ad.block w w4):=cu.out.trans (H.out.2.mono ry.out);go_wp2_with fail;go_ret2;exact ⟨some ad,k0,cap,C,0,rfl,HE.out,cZ.out,fun ad' h=>by obtain rfl:=Option.some.inj h;exact Nat.le_refl _,HF.out⟩
end
section
open Go.RowKit Go.Lib
attribute [local go_sem ↓] zy zx
attribute [local go_sem] zJ zu zH
def mu:List En -> Int
 | []=>0
 | e :: r=>if ceE e=0 then mu r else ceE e
def Ov (L:List En) (k:Nat):Prop:=∀ i,i < k -> ceE (L.getD i en0)=0
def Ci (L R:List En) (er:Int):Prop:=(mu L≠0/\R=[]/\er=mu L)∨(mu L=0/\dK L R er)
def JQ (w w':World) (e:Ending) (L:List En):Prop:=∃ ao n c R er,e = .returned (.tuple #[.slice ao n c,.int .i64 er])/\aD w' ao n c R/\Below w.heap.size w w'/\(∀ ad,ao=some ad -> w.heap.size <= ad.block)/\Ci L R er
theorem aD.cells {w:World} {ad:Addr} {n cap:Nat} {L:List En} (hS:aD w (some ad) n cap L) (j:Nat) (u:Value) (hj:(ecs L)[j]? = some u):w.cell? (ad.add j)=some u:=by
 have iw:j < L.length * 4:=by have:=(List.getElem?_eq_some_iff.1 hj).1;rwa [jz] at this
 have e4:=zds L (j / 4) (j % 4) (by omega) (by omega);rw [show j / 4 * 4+j % 4=j by omega,hj] at e4;have A:=hS.2.2.1 ad rfl (j / 4) (by rw [<- hS.1];omega)
 have:j % 4=0∨j % 4=1∨j % 4=2∨j % 4=3:=by omega
 rcases this with h | h | h | h
 ·rw [h] at e4;rw [show j=j / 4 * 4 by omega,A.c0];exact e4.symm
 ·rw [h] at e4;have:=A.c1;rw [qE] at this;rw [show j=j / 4 * 4+1 by omega,this];exact e4.symm
 ·rw [h] at e4;have:=A.c2;rw [qE] at this;rw [show j=j / 4 * 4+2 by omega,this];exact e4.symm
 ·rw [h] at e4;have:=A.c3;rw [qE] at this;rw [show j=j / 4 * 4+3 by omega,this];exact e4.symm
theorem yC (L:List En):∀ u∈ecs L,u.oneCell'=true:=by
 intro u hu;obtain ⟨l,hl,hv⟩:=List.mem_flatten.1 hu;obtain ⟨e,_,rfl⟩:=List.mem_map.1 hl;exact bO e u hv
theorem zfP (ad:Addr) (n cap:Nat) (L:List En) (w:World) (hS:aD w (some ad) n cap L) :
  Calls Tryz.prog 98 #[.slice (some ad) n cap] w fun e w'=>∃ ao c,e = .returned (.slice ao n c)/\dP w.heap.size w.heap.size w w' ao c L:=by
 obtain ⟨i0,hi,cY,dw,eI⟩:=info_parts mw;have q22:∀ w,(binOp .eql 22 (.slice (some ad) n cap) (.slice none 0 0)).run Tryz.prog w = .ok (.bool false) w:=fun w=>Lib.run_eql_slice_nil w _ _ (some ad) n cap 0 0 Tryz.underlying22;have HS:=hide hS;clear hS;go_enter Tryz.func98,Tryz.ntmps98;go_wp2_with (at_builtin;refine wpList_append_own _ rfl _ _ 22 rfl w.heap.size 50 i0 (.agg #[.int .i64 0,.int .i64 0,.string ⟨#[]⟩,.int .i64 0]) 4 40 Tryz.underlying22 hi cY dw eI rfl (by decide) _ _ _ rfl (World.ownsRow_made w #[] 0 (Nat.le_refl _) (Nat.zero_le _) (by simp)) ad n cap (ecs L) rfl ?qc1 ?qc2 ?qc3 ?qc4 ?qc5 ?qc6 ?_)
 case qc1=>rw [jz,HS.out.1]
 case qc2 =>
  intro j u hj;have:=HS.out.cells j u hj;rw [(ze w _).cell (World.block_lt_of_cell? _ _ this)];exact this
 case qc3=>exact yC L
 case qc4=>rw [Nat.zero_add];unfold maxLen;have:=HS.out.2.2.2.2;omega
 case qc5=>rw [Nat.zero_add];have:=HS.out.2.2.2.2;omega
 case qc6=>simp
 intro v' w1 a7 aC fJ
 have rP:w1.ownsRow w.heap.size 50 4 v' n (ecs L):=by simpa using a7
 have hb:Below w.heap.size w w1:=((Below.refl _ w).alloc (Nat.le_refl _) _).grown aC (by simp) (by intro k hk;simp [Value.ownBlock] at hk;omega)
 have HF:Hid (∃ ao c,v' = .slice ao n c/\dP w.heap.size w.heap.size w w1 ao c L):=by
  rcases rP.2 with ⟨h0,_⟩ | ⟨g,c,cur,rfl,r⟩
  ·exact absurd h0 fJ
  ·exact ⟨some ⟨g,0,none⟩,c,rfl,by rw [HS.out.1];exact rP,hb,hb.size,Nat.le_refl _⟩
 clear a7 rP aC fJ hb;go_wp2_with fail;go_ret;obtain ⟨ao,c,rfl,h⟩:=HF.out;exact ⟨ao,c,rfl,h⟩
theorem zfO (w:World):Calls Tryz.prog 98 #[.slice none 0 0] w fun e w'=>e = .returned (.slice none 0 0)/\w'=w:=by
 have q22:∀ w,(binOp .eql 22 (.slice none 0 0) (.slice none 0 0)).run Tryz.prog w = .ok (.bool true) w:=fun w=>Lib.run_eql_slice_nil w _ _ none 0 0 0 0 Tryz.underlying22;go_enter Tryz.func98,Tryz.ntmps98;go_wp2_with fail;go_ret;exact ⟨rfl,rfl⟩
theorem dP.mr {B0 B:Nat} {w w':World} {ad:Addr} {cap:Nat} {acc:List En} (O:dP B0 B w w' (some ad) cap acc):MR w' ad acc.toArray/\acc.length <= cap/\cap <= 9223372036854775807/\B <= ad.block:=by
 rcases O.own.2 with ⟨h0,_⟩ | ⟨g,c,cur,hv,dU,dx,hnc,fS,hcsz,htake⟩
 ·cases h0
 ·simp only [Value.slice.injEq,Option.some.injEq,true_and] at hv;obtain ⟨rfl,rfl⟩:=hv;refine ⟨⟨fun j hj=>?_,(Array.getElem?_eq_some_iff.1 dx).1,rfl⟩,hnc,by unfold maxLen at fS;omega,dU⟩;rw [Sort.size_flatK] at hj
  have Le:j < acc.length * 4:=by simpa using hj
  refine ⟨?_,by simp [World.frozen?,dx]⟩;rw [Nat.zero_add,O.own.cellAt j (by omega),Sort.get_flatK _ _ _ _ hj];have e4:=zds acc (j / 4) (j % 4) (by omega) (by omega);rw [show j / 4 * 4+j % 4=j by omega] at e4;rw [e4]
  have e5:acc.toArray[j / 4]! = acc.getD (j / 4) en0:=by
   rw [getElem!_pos acc.toArray (j / 4) (by simp;omega)];simp [List.getD,show j / 4 < acc.length by omega]
  rw [e5]
  have:j % 4=0∨j % 4=1∨j % 4=2∨j % 4=3:=by omega
  rcases this with h | h | h | h <;> rw [h] <;> rfl
end
section
open Go.RowKit Go.Lib
attribute [local go_sem ↓] zy zx
attribute [local go_sem] zJ zu zH
end
end Go.Proofs.YtjffpimfngdggaaGreat.K
namespace Go.Proofs
open Go.Shelf
def Tryz.growEn_ren:Go.Shelf.Ren:=⟨fun | 4=>236 | n=>n,fun | 22=>22 | 25=>50 | 3=>3 | 4=>4 | 9=>9 | 20=>20 | 0=>0 | n=>n,fun | n=>n⟩
theorem Tryz.growEn:Go.Proofs.Lays8.n4 Tryz.prog Tryz.growEn_ren:={
 mixed:=by kernel_rfl
 f4:=⟨Tryz.f236.name,by decide,Tryz.func236.trans (congrArg some (by kernel_rfl))⟩
 t0:=Tryz.underlying0
 a0:=Tryz.isAgg0
 z0:=Tryz.sizeOf0
 v0:=Tryz.zeroValue0
 t3:=Tryz.underlying3
 a3:=Tryz.isAgg3
 z3:=Tryz.sizeOf3
 v3:=Tryz.zeroValue3
 t4:=Tryz.underlying4
 a4:=Tryz.isAgg4
 z4:=Tryz.sizeOf4
 v4:=Tryz.zeroValue4
 t9:=Tryz.underlying9
 a9:=Tryz.isAgg9
 z9:=Tryz.sizeOf9
 v9:=Tryz.zeroValue9
 t20:=Tryz.underlying20
 a20:=Tryz.isAgg20
 z20:=Tryz.sizeOf20
 v20:=Tryz.zeroValue20
 t22:=Tryz.underlying22
 a22:=Tryz.isAgg22
 z22:=Tryz.sizeOf22
 v22:=Tryz.zeroValue22 }
end Go.Proofs
namespace Go.Proofs.YtjffpimfngdggaaGreat.K
section
open Go.RowKit Go.Lib

theorem zij (n:Nat):(Builtin.zeroCells (EC en0) n).size=n * 4:=by simp [Builtin.zeroCells,zH]
theorem zf (w:World):Below w.heap.size w w.drew:=⟨rfl,rfl,rfl,Nat.le_refl _,fun _ _=>rfl⟩
theorem zg5 (n:Nat) (w:World) (hn:n <= 3518437208883):Calls Tryz.prog 236 #[.slice none 0 0,.int .i64 n] w fun e w'=>∃ ao c,e = .returned (.slice ao 0 c)/\dP w.heap.size w.heap.size w w' ao c []:=by
 by_cases h0:n=0
 ·subst h0;refine Calls.mono (Any8.slices_Grow_room Tryz.growEn none 0 0 0 w (Nat.le_refl _) (by omega) (by omega) (Nat.le_refl _)) ?_;rintro e w' ⟨rfl,rfl⟩;exact ⟨none,0,rfl,dP.nil (Below.refl _ _) (Nat.le_refl _) (Nat.le_refl _)⟩
 ·obtain ⟨i0,hi,cY,dw,eI⟩:=info_parts mw;have h:=Any8.slices_Grow_grow Tryz.growEn i0 _ hi cY (by rw [dw];omega) none 0 0 n [] w (Nat.le_refl _) (by omega) (by rw [eI];omega) (by omega) (by simp) (fun _=>rfl) (fun a ha=>by cases ha);rw [show Tryz.growEn_ren.t 25=50 from rfl] at h;refine Calls.mono h ?_;rintro e w' ⟨rfl,rfl⟩;have p8:=grownCap_ge w (0+n) 0 50;have iV:=grownCap_le_maxLen w (0+n) 0 50 (by unfold maxLen;omega);refine ⟨some ⟨w.heap.size,0,none⟩,grownCap w (0+n) 0 50,rfl,⟨rfl,Or.inr ⟨w.heap.size,grownCap w (0+n) 0 50,_,rfl,Nat.le_refl _,heap_alloc_new w.drew _,Nat.zero_le _,iV,?_,by simp [ecs]⟩⟩,(zf w).trans ((ze w.drew _).mono (Nat.le_refl _)),by simp,Nat.le_refl _⟩
  have hc:(Value.agg #[.int .i64 0,.int .i64 0,.string ⟨#[]⟩,.int .i64 0]).cells=EC en0:=by simp [Value.cells];rfl
  rw [hc];simp only [Array.size_append,zij];rw [Nat.zero_add] at p8 ⊢;simp;omega
theorem dP.appendAll {B0 B:Nat} {w w':World} {ao:Option Addr} {cap:Nat} {acc:List En} (O:dP B0 B w w' ao cap acc) (bo:Option Addr) (m c:Nat) (R:List En) (hR:aD w' bo m c R) (cJ:acc.length+m <= 3518437208883)
  {ops:Array Oper} {rest:List Oper} {o:Oper} {a:Act} {Q:Exit -> Act -> World -> Prop} (hgd:o.guard=none) (s x:Operand) (ho:o.op = .call { callee:=.builtin .append,args:=#[s,x],argTypes:=#[22,22] })
  (n:Nat) (hn:acc.length=n) (hs:a.eval s = .slice ao n cap) (hx:a.eval x = .slice bo m c)
  (hK:∀ (ap:Option Addr) (cap2:Nat) (w2:World),dP B0 B w w2 ap cap2 (acc++R) -> wpList Tryz.prog ops Q rest (a.put o.dst (.slice ap (n+m) cap2)) w2) :
  wpList Tryz.prog ops Q (o :: rest) a w':=by
 subst hn;obtain ⟨i0,hi,cY,dw,eI⟩:=info_parts mw;have hB:=O.hB;have hB0:=O.hB0
 cases bo with
 | none =>
  obtain ⟨rfl,rfl⟩:=hR.2.1 rfl;obtain rfl:R=[]:=List.eq_nil_of_length_eq_zero hR.1;refine wpList_append_own_none hgd s x 22 ho B 50 i0 4 Tryz.underlying22 hi _ acc.length (ecs acc) hs O.own hx ?_;have:=hK ao cap w' (by rw [List.append_nil];exact O);exact this
 | some ad =>
  refine wpList_append_own _ hgd s x 22 ho B 50 i0 (.agg #[.int .i64 0,.int .i64 0,.string ⟨#[]⟩,.int .i64 0]) 4 40 Tryz.underlying22 hi cY dw eI rfl (by decide) _ acc.length (ecs acc) hs O.own ad m c (ecs R) hx (by rw [jz,hR.1]) (fun j u hj=>hR.cells j u hj) (yC R) (by unfold maxLen;omega) (by omega) hB ?_;intro v' w2 a7 aC _;have dH:∀ k,(Value.slice ao acc.length cap).ownBlock=some k -> B <= k:=fun k hk=>(O.own.lt k hk).1;have dE:=aC.size;have ut:Below B0 w w2:=O.below.grown aC (by omega) (fun k hk=>by have:=dH k hk;omega);have hm:m=R.length:=hR.1.symm
  have pf:w2.ownsRow B 50 4 v' (acc++R).length (ecs (acc++R)):=by rw [List.length_append,bv,<- hm];exact a7
  rcases a7.2 with ⟨h0,fV⟩ | ⟨g,cap2,cur,hv,r⟩
  ·subst h0;have e0:acc.length+m=0:=fV;have:=hK none 0 w2 ⟨by rw [List.length_append,<- hm,e0] at pf;rw [List.length_append,<- hm,e0];exact pf,ut,by omega,hB0⟩;rwa [e0] at this
  ·subst hv;exact hK (some ⟨g,0,none⟩) cap2 w2 ⟨by rw [List.length_append,<- hm] at pf ⊢;exact pf,ut,by omega,hB0⟩
theorem zed (gb:Nat) (ao bo:Option Addr) (n cap m cap':Nat) (L R:List En) (w:World) (hS:aD w ao n cap L) (hR:aD w bo m cap' R) (c0:w.cell? ⟨gb,0,none⟩=some (.slice ao n cap)) (c1:w.cell? ⟨gb,1,none⟩=some (.slice bo m cap')) (cJ:n+m <= 3518437208883) :
  Calls Tryz.prog 209 #[.slice (some ⟨gb,0,none⟩) 2 2] w fun e w'=>∃ ap c,e = .returned (.slice ap (n+m) c)/\dP w.heap.size w.heap.size w w' ap c (L++R):=by
 have HS:=hide hS;have HR:=hide hR;have HL:Hid (L.length=n):=hS.1;have GQ:Hid (R.length=m):=hR.1;have tm:=hide c0;have nI:=hide c1;clear hS hR;go_enter Tryz.func209,Tryz.ntmps209;go_wp2_with fail;go_loopw [3,5,11] (fun s _ i wr=>∃ k z:Nat,k <= 2/\s = .int .i64 z/\i = .int .i64 k/\z=(if k=0 then 0 else if k=1 then n else n+m)/\w=wr) (fun _ _ i _=>2 - (intOf i).toNat)
 case atStart=>exact ⟨0,0,Nat.zero_le _,rfl,rfl,rfl,rfl⟩
 case round =>
  obtain ⟨k,z,hk,rfl,rfl,hz,rfl⟩:=hrel;by_cases h2:k=2
  ·subst h2;simp at hz;subst hz;clear c0 c1;go_wp2_with fail;refine (zg5 (n+m) _ cJ).mono ?_;rintro e w3 ⟨a3,c3,rfl,O3⟩;have nN:=hide O3;clear O3;go_wp2_with fail;go_loopw [6,8,27] (fun v _ i wr=>∃ (k:Nat) (ap:Option Addr) (c:Nat) (acc:List En),k <= 2/\v = .slice ap acc.length c/\i = .int .i64 k/\Hid (acc=(if k=0 then [] else if k=1 then L else L++R)/\dP w.heap.size w.heap.size w wr ap c acc)) (fun _ _ i _=>2 - (intOf i).toNat)
   case atStart=>exact ⟨0,a3,c3,[],Nat.zero_le _,rfl,rfl,rfl,nN.out⟩
   case round =>
    clear nN;obtain ⟨k,ap,c,acc,hk,rfl,rfl,H⟩:=hrel
    rename World=>w4
    have d0:w4.cell? ⟨gb,0,none⟩=some (.slice ao n cap):=by rw [H.out.2.below.cell (World.block_lt_of_cell? _ _ tm.out)];exact tm.out
    have d1:w4.cell? ⟨gb,1,none⟩=some (.slice bo m cap'):=by rw [H.out.2.below.cell (World.block_lt_of_cell? _ _ nI.out)];exact nI.out
    by_cases h2:k=2
    ·subst h2
     have HF:Hid (∃ c',(Value.slice ap acc.length c:Value) = .slice ap (n+m) c'/\dP w.heap.size w.heap.size w w4 ap c' (L++R)):=by
      have e:acc=L++R:=H.out.1;rw [e,List.length_append,HL.out,GQ.out];exact ⟨c,rfl,by rw [<- e];exact H.out.2⟩
     clear d0 d1;go_wp2_with fail;go_ret;obtain ⟨c',e1,e2⟩:=HF.out;exact ⟨ap,c',by rw [e1];rfl,e2⟩
    ·by_cases h1:k=1
     ·subst h1;have e:acc=L:=H.out.1
      have nJ:acc.length=n:=by rw [e];exact HL.out
      have Mn:=hide (HR.out.below H.out.2.below);go_wp2_with (at_builtin;refine H.out.2.appendAll bo m cap' R Mn.out (by omega) rfl (.tmp 31) (.tmp 32) rfl acc.length rfl rfl rfl ?_;intro a5 c5 w5 O5);go_roundw
      case rel=>exact ⟨1+1,a5,c5,acc++R,by omega,by simp [List.length_append,GQ.out,HL.out,e],by go_num,by rw [e];rfl,O5⟩
      case measure=>simp [intOf]
     ·obtain rfl:k=0:=by omega
      have e:acc=[]:=H.out.1
      have nJ:acc.length=0:=by rw [e];rfl
      have uv:=hide (HS.out.below H.out.2.below);go_wp2_with (at_builtin;refine H.out.2.appendAll ao n cap L uv.out (by omega) rfl (.tmp 31) (.tmp 32) rfl acc.length rfl rfl rfl ?_;intro a5 c5 w5 O5);go_roundw
      case rel=>exact ⟨0+1,a5,c5,acc++L,by omega,by simp [HL.out,e],by go_num,by rw [e];rfl,O5⟩
      case measure=>simp [intOf]
  ·by_cases h1:k=1
   ·subst h1;simp at hz;subst hz;go_wp2_with fail;go_roundw
    case rel=>exact ⟨1+1,z+m,by omega,by go_num,by go_num,rfl,trivial⟩
    case measure=>simp [intOf]
   ·obtain rfl:k=0:=by omega
    simp at hz;subst hz;go_wp2_with fail;go_roundw
    case rel=>exact ⟨0+1,n,by omega,by go_num,by go_num,rfl,trivial⟩
    case measure=>simp [intOf]
end
section
open Go.RowKit

def oL (e:En):Int:=e.rep * 1000000000+e.num
theorem ziI {x y:En} (hx:ceE x=0) (hy:ceE y=0) (h:ahead x y=true):oL x < oL y:=by
 have bx:∀ z:En,ceE z=0 -> (0 <= z.rep/\z.rep < 16)/\1 <= z.num/\z.num <= 1000000000:=by
  intro z hz;unfold ceE at hz;by_cases h1:isR z.rep=false
  ·rw [if_pos h1] at hz;omega
  ·rw [if_neg h1] at hz;by_cases h2:z.num < 1∨1000000000 < z.num
   ·rw [if_pos h2] at hz;omega
   ·have nL:isR z.rep=true:=by simpa using h1
    unfold isR at nL;simp at nL;exact ⟨nL,by omega,by omega⟩
 have b1:=bx x hx;have b2:=bx y hy;simp [ahead] at h;unfold oL;omega
theorem zfK {z:En} (hz:ceE z=0):1 <= oL z/\oL z <= 16000000000:=by
 unfold ceE at hz;by_cases h1:isR z.rep=false
 ·rw [if_pos h1] at hz;omega
 ·rw [if_neg h1] at hz;by_cases h2:z.num < 1∨1000000000 < z.num
  ·rw [if_pos h2] at hz;omega
  ·have nL:isR z.rep=true:=by simpa using h1
   unfold isR at nL;simp at nL;unfold oL;omega
theorem bk (L:List En) (n:Nat) (h:okN L n=true) (k:Nat) (hk:k < n):okAt L k=true:=by
 unfold okN at h;exact List.all_eq_true.1 h k (List.mem_range.2 hk)
theorem zaS {L:List En} (h:chk L=0):okN L L.length=true:=by
 unfold chk at h;by_cases e:okN L L.length=true
 ·exact e
 ·rw [if_neg e] at h;omega
theorem zfR {L:List En} (h:chk L=0):L.length <= 16000000000:=by
 have ho:=zaS h
 have key:∀ k,k < L.length -> ((k:Nat):Int)+1 <= oL (L.getD k en0):=by
  intro k
  induction k with
  | zero =>
   intro hk;have:=bk L _ ho 0 hk;simp [okAt] at this;have:=zfK this;simpa using this.1
  | succ k ih =>
   intro hk;have h1:=bk L _ ho (k+1) hk;have h0:=bk L _ ho k (by omega);simp only [okAt,Bool.and_eq_true,beq_iff_eq,Bool.or_eq_true,decide_eq_true_eq,Nat.add_sub_cancel] at h0 h1
   have ha:ahead (L.getD k en0) (L.getD (k+1) en0)=true:=by
    rcases h1.2 with e | e
    ·omega
    ·exact e
   have:=ziI h0.1 h1.1 ha;have:=ih (by omega);omega
 rcases Nat.eq_zero_or_pos L.length with h0 | h0
 ·omega
 ·have h1:=key (L.length - 1) (by omega);have h2:=bk L _ ho (L.length - 1) (by omega);simp only [okAt,Bool.and_eq_true,beq_iff_eq] at h2;have:=(zfK h2.1).2;omega
end
section
open Go.RowKit Go.Lib
attribute [local go_sem ↓] zy zx
attribute [local go_sem] zJ zu zH xq
def mB (A B R:List En) (er:Int):Prop:=(¬ (chk A=0/\chk B=0)/\R=[]/\er=1)∨((chk A=0/\chk B=0)/\dK (A++B) R er)
def CE (w w':World) (e:Ending) (A B:List En):Prop:=∃ ao n c R er,e = .returned (.tuple #[.slice ao n c,.int .i64 er])/\aD w' ao n c R/\Below w.heap.size w w'/\mB A B R er
def i5 (w w':World) (e:Ending) (A B:List En):Prop:=∃ ao n c R er,e = .returned (.tuple #[.slice ao n c,.int .i64 er])/\aD w' ao n c R/\Below w.heap.size w w'/\(∀ ad,ao=some ad -> w.heap.size <= ad.block)/\mB A B R er
theorem nH {w w':World} {A B:List En} (h:¬ (chk A=0/\chk B=0)) (hb:Below w.heap.size w w'):i5 w w' (.returned (.tuple #[.slice none 0 0,.int .i64 1])) A B:=
 ⟨none,0,0,[],1,rfl,aD.none _,hb,fun ad h=>(by cases h),Or.inl ⟨h,rfl,rfl⟩⟩
theorem zdI (ao bo:Option Addr) (n cap m cap':Nat) (A B:List En) (w:World) (hS:aD w ao n cap A) (hR:aD w bo m cap' B) :
  Calls Tryz.prog 168 #[.slice ao n cap,.slice bo m cap'] w fun e w'=>i5 w w' e A B:=by
 have HS:=hide hS;have HR:=hide hR;clear hS hR;obtain ⟨p,Hp⟩:∃ p,Hid (chk A=p):=⟨_,rfl⟩;obtain ⟨q,Hq⟩:∃ q,Hid (chk B=q):=⟨_,rfl⟩;by_cases h1:p=0
 ·by_cases h2:q=0
  ·have HA:Hid (chk A=0/\chk B=0):=⟨Hp.out.trans h1,Hq.out.trans h2⟩
   have d1:(p != 0)=false:=by simpa using h1
   have d2:(q != 0)=false:=by simpa using h2
   have cJ:n+m <= 3518437208883:=by
    have l1:=zfR HA.out.1;have l2:=zfR HA.out.2;rw [HS.out.1] at l1;rw [HR.out.1] at l2;omega
   clear h1 h2;go_enter Tryz.func168,Tryz.ntmps168;go_wp2_with fail;refine (qx ao n cap A _ HS.out).mono ?_;rintro e w1 ⟨rfl,b1⟩;rw [Hp.out];have aM:=hide b1;clear b1;go_wp2_with fail;refine (qx bo m cap' B _ (HR.out.below aM.out)).mono ?_;rintro e w2 ⟨rfl,b2⟩;rw [Hq.out];have cu:=wTr aM b2;clear b2;go_wp2_with fail;have B3:=ze w2 (.cells #[.slice ao n cap,.slice bo m cap'] 22)
   have k0:(w2.alloc (.cells #[.slice ao n cap,.slice bo m cap'] 22)).cell? ⟨w2.heap.size,0,none⟩=some (.slice ao n cap):=by simp
   have k1:(w2.alloc (.cells #[.slice ao n cap,.slice bo m cap'] 22)).cell? ⟨w2.heap.size,1,none⟩=some (.slice bo m cap'):=by simp
   have aw:=wTr cu B3;refine (zed w2.heap.size ao bo n cap m cap' A B _ (HS.out.below aw.out) (HR.out.below aw.out) k0 k1 cJ).mono ?_;rintro e w4 ⟨a4,c4,rfl,O4⟩;have Fk:=hide O4;have aI:=wTr aw O4.below;have HZ:Hid (w.heap.size <= (w2.alloc (.cells #[.slice ao n cap,.slice bo m cap'] 22)).heap.size):=aw.out.size
   have ic:∀ e∈A++B,e.sku.size <= maxLen:=fun e he=>by
    rcases List.mem_append.1 he with h | h
    ·exact HS.out.2.2.2.1 e h
    ·exact HR.out.2.2.2.1 e h
   have u2:=hide ic
   have Be:Hid ((A++B).length=n+m):=by show _=_;rw [List.length_append,HS.out.1,HR.out.1]
   clear O4 B3 k0 k1 ic
   cases a4 with
   | none =>
    obtain ⟨S4,_⟩:=Fk.out.src u2.out (by rw [Be.out];exact cJ);obtain ⟨e1,rfl⟩:=S4.2.1 rfl;have HE:Hid (A++B=[]):=List.eq_nil_of_length_eq_zero e1
    have m4:n+m=0:=by rw [<- Be.out];exact e1
    rw [m4];clear S4 e1;go_wp2_with fail;refine (uG none 0 _).mono ?_;rintro e w6 ⟨rfl,b6⟩;have HN:Hid (i5 w w6 (.returned (.tuple #[.slice none 0 0,.int .i64 0])) A B):=⟨none,0,0,[],0,rfl,aD.none _,aI.out.trans (b6.mono aI.out.size),fun ad h=>(by cases h),Or.inr ⟨HA.out,by rw [HE.out];exact zb5⟩⟩;clear b6;go_wp2_with fail;go_ret2;exact HN.out
   | some a4 =>
    obtain ⟨M4,Aw,rQ,nM⟩:=Fk.out.mr;have lN:=hide M4
    have nI:Hid (n+m <= c4):=by show _ <= _;rw [<- Be.out];exact Aw
    have tj:=hide rQ;have Bi:Hid (w.heap.size <= a4.block):=Nat.le_trans HZ.out nM;clear M4 Aw rQ nM;go_wp2_with fail;refine (zdS a4 c4 (n+m) (A++B).toArray _ lN.out (by rw [List.size_toArray];exact Be.out) cJ nI.out tj.out (by simpa using u2.out)).mono ?_;rintro e w6 ⟨a6,n6,c6,R6,er,rfl,S6,b6,f6,t6⟩
    have HN:Hid (i5 w w6 (.returned (.tuple #[.slice a6 n6 c6,.int .i64 er])) A B):=
     ⟨a6,n6,c6,R6,er,rfl,S6,aI.out.trans (b6.mono Bi.out),fun ad h=>Nat.le_trans Bi.out (f6 ad h),Or.inr ⟨HA.out,by simpa using t6⟩⟩
    clear S6 b6 f6 t6;go_wp2_with fail;go_ret2;exact HN.out
  ·have HX:Hid (¬ (chk A=0/\chk B=0)):=fun h=>h2 (Hq.out.symm.trans h.2)
   have d1:(p != 0)=false:=by simpa using h1
   have d2:(q != 0)=true:=by simpa using h2
   clear h1 h2;go_enter Tryz.func168,Tryz.ntmps168;go_wp2_with fail;refine (qx ao n cap A _ HS.out).mono ?_;rintro e w1 ⟨rfl,b1⟩;rw [Hp.out];have aM:=hide b1;clear b1;go_wp2_with fail;refine (qx bo m cap' B _ (HR.out.below aM.out)).mono ?_;rintro e w2 ⟨rfl,b2⟩;rw [Hq.out];have cu:=wTr aM b2;clear b2;go_wp2_with fail;go_ret2;exact nH HX.out cu.out
 ·have HX:Hid (¬ (chk A=0/\chk B=0)):=fun h=>h1 (Hp.out.symm.trans h.1)
  have d1:(p != 0)=true:=by simpa using h1
  clear h1;go_enter Tryz.func168,Tryz.ntmps168;go_wp2_with fail;refine (qx ao n cap A _ HS.out).mono ?_;rintro e w1 ⟨rfl,b1⟩;rw [Hp.out];have aM:=hide b1;clear b1;go_wp2_with fail;go_ret2;exact nH HX.out aM.out
theorem zet (ao bo:Option Addr) (n cap m cap':Nat) (A B:List En) (w:World) (hS:aD w ao n cap A) (hR:aD w bo m cap' B) :
  Calls Tryz.prog 168 #[.slice ao n cap,.slice bo m cap'] w fun e w'=>CE w w' e A B:=by
 refine (zdI ao bo n cap m cap' A B w hS hR).mono ?_;rintro e w' ⟨a,n,c,R,er,h1,h2,h3,-,h4⟩;exact ⟨a,n,c,R,er,h1,h2,h3,h4⟩
end
end Go.Proofs.YtjffpimfngdggaaGreat.K
namespace Go.Proofs.YtjffpimfngdggaaGreat
section
open Go.RowKit
structure FcN (N:Nat) (f:Fc):Prop where
 a:∀ ad,f.ao=some ad -> N <= ad.block
 p:dA N f.p
 r:∀ ad,f.ro=some ad -> N <= ad.block
 q:∀ c∈f.rs,dA N c.p
theorem FcN.mono {N M:Nat} {f:Fc} (h:FcN N f) (hm:M <= N):FcN M f:=⟨fun ad e=>Nat.le_trans hm (h.a ad e),h.p.mono hm,fun ad e=>Nat.le_trans hm (h.r ad e),fun c hc=>(h.q c hc).mono hm⟩
def FcR (f:Fc):Prop:=f.rn <= f.rc/\(f.ro=none -> f.rc=0)
theorem aU.row {w:World} {f:Fc} (h:aU w f) (hr:FcR f):RcT w f.ro f.rn f.rc f.rs:=⟨h.rs,hr.1,hr.2⟩
theorem aU.off2 {w w':World} {f:Fc} {N:Nat} (h:aU w f) (hn:FcN N f) (hk:∀ k,N <= k -> w'.heap[k]? = w.heap[k]?):aU w' f:=
 ⟨h.es.kept (fun ad e=>hk _ (hn.a ad e)),ji h.p (fun ad e=>hk _ (hn.p.1 ad e)) (fun ad e=>hk _ (hn.p.2 ad e)),zh1 h.rs (fun ad e=>hk _ (hn.r ad e)) (fun r hr=>⟨ji (h.rs.ok r hr).1 (fun ad e=>hk _ ((hn.q r hr).1 ad e)) (fun ad e=>hk _ ((hn.q r hr).2 ad e)),(h.rs.ok r hr).2⟩)⟩
theorem oJ {w:World} {g:Nat} {fn:Func} {p q:Tmp} {m:cw} {v:Value} (h:fn.results=#[.cell p 29,.tmp q]) {tmps:Array Value} (hp:tmps.getD p undef = .pointer (some ⟨g,0,none⟩)) (hq:tmps.getD q undef=v) (A:aF w g m) :
  (results fn tmps).run Tryz.prog w = .ok (.tuple #[FaV m,v]) w:=by
 have hl:=zai A;simp only [results,h];rw [Array.getD_eq_getD_getElem?] at hp hq;simp [hp,hq,asAddr,hl]
def fz0:Fc:=⟨none,0,0,[],pv0,none,0,0,[]⟩
theorem zfu (w:World):aU w fz0:=⟨⟨rfl,fun _=>⟨rfl,rfl⟩,fun ad h=>(by cases h),fun e he=>(by cases he),Nat.zero_le _⟩,am.zero w,RcS.empty w⟩
theorem ziC (N:Nat):FcN N fz0:=⟨fun ad h=>(by cases h),⟨fun ad h=>(by cases h),fun ad h=>(by cases h)⟩,fun ad h=>(by cases h),fun c hc=>(by cases hc)⟩
theorem zft:FcR fz0:=⟨Nat.le_refl _,fun _=>rfl⟩
theorem zv:(#[.slice none 0 0,.slice none 0 0,.slice none 0 0,.slice none 0 0]:Array Value)=FaC (mkF fz0):=rfl
def lR (a:Array (Nat × Value)):Sem Value:=Instr.build 29 a
theorem xz (a:Array (Nat × Value)):Instr.build 29 a=lR a:=rfl
theorem qW (w:World):(lR #[]).run Tryz.prog w = .ok (.agg (FaC (mkF fz0))) w:=by kernel_rfl
theorem jx (a b:Option Addr) (n c m d:Nat) (p:Pv) (w:World):(lR #[(0,.slice a n c),(1,.agg (PC p)),(2,.slice b m d)]).run Tryz.prog w = .ok (.agg #[.slice a n c,.slice p.vo p.vn p.vc,.slice p.co p.cn p.cc,.slice b m d]) w:=by kernel_rfl
def FcD (w w':World) (e:Ending) (D:Fc -> Int -> Prop):Prop:=∃ f er,e = .returned (.tuple #[FaV (mkF f),.int .i64 er])/\aU w' f/\FcR f/\FcN w.heap.size f/\Below w.heap.size w w'/\D f er
theorem zfs {w W:World} {g:Nat} {m0:cw} {f:Fc} {er:Int} (D:Fc -> Int -> Prop) (hX:aF W g m0) (hF:aU W f) (hr:FcR f) (hn:FcN (g+1) f) (hb:Below w.heap.size w W) (hg:w.heap.size <= g) (hD:D f er) :
  aF (W.setRow g (FaC (mkF f))) g (mkF f)/\FcD w (W.setRow g (FaC (mkF f))) (.returned (.tuple #[FaV (mkF f),.int .i64 er])) D:=
 ⟨hX.setRow,f,er,rfl,hF.off2 hn (fun k hk=>setRow_other _ _ _ _ (by omega)),hr,hn.mono (by omega),zh hb hg,hD⟩
theorem zfW {P Q:Pst} (hP:ag P) (hQ:ag Q):(1+P.cloud.length)+((1+Q.cloud.length)+0) <= 8796093022207:=by
 have h1:=(j6 (zT.2 hP:af (aa P) P)).1;have h2:=(j6 (zT.2 hQ:af (aa Q) Q)).1;omega
def Ot (c:Int) (f g h:Fc) (er:Int):Prop:=(¬ (ar f/\ar g)/\er=1/\h=fz0)∨(ar f/\ar g/\∃ R e,K.mB f.es g.es R e/\((e≠0/\er=(if c=0 then e else c)/\h=fz0)∨(e=0/\er=0/\h.es=R/\af (aA [f.p,g.p]) h.p.P/\ly f.rs g.rs h.rs/\h.rn <= f.rn+g.rn)))
theorem zcF {p q:Pv} (hP:ag p.P) (hQ:ag q.P):wt [p,q] <= 8796093022207:=zfW hP hQ
def E2 (a:Array (Nat × Value)):Sem Value:=Instr.buildSlice 151 2 a
theorem je (a:Array (Nat × Value)):Instr.buildSlice 151 2 a=E2 a:=rfl
theorem qR (p q:Pv) (w:World):(E2 #[(0,.agg (PC p)),(1,.agg (PC q))]).run Tryz.prog w = .ok (.slice (some ⟨w.heap.size,0,none⟩) 2 2) (w.alloc (.cells #[.slice p.vo p.vn p.vc,.slice p.co p.cn p.cc,.slice q.vo q.vn q.vc,.slice q.co q.cn q.cc] 26)):=by kernel_rfl
theorem sG (w:World) (p q:Pv) (hp:am w p) (hq:am w q):fN (w.alloc (.cells #[.slice p.vo p.vn p.vc,.slice p.co p.cn p.cc,.slice q.vo q.vn q.vc,.slice q.co q.cn q.cc] 26)) (some ⟨w.heap.size,0,none⟩) 2 [p,q]:=by
 refine zc6 _ w.heap.size [p,q] _ rfl 26 2 rfl (heap_alloc_new w _) (fun x hx=>?_);rcases List.mem_cons.1 hx with rfl | hx
 ·exact hp.below (ze w _)
 ·obtain rfl:=List.mem_singleton.1 hx;exact hq.below (ze w _)
end
section
open Go.RowKit
variable {w w' : World} {g : Nat}
def aG (w:World) (g:Nat) (m:cw):Prop:=w.heap[g]? = some (.cells (FaC m) 31 (0,0))
theorem aG.lt {m:cw} (h:aG w g m):g < w.heap.size:=(Array.getElem?_eq_some_iff.1 h).1
theorem aG.below {m:cw} (h:aG w g m) (hb:Below w.heap.size w w'):aG w' g m:=(hb.block g h.lt).trans h
theorem aG.c0 {m:cw} (h:aG w g m):w.cell? ⟨g,0,none⟩=some (.slice m.addso m.addsn m.addsc):=by unfold aG at h;simp [World.cell?,h,FaC]
theorem aG.c1 {m:cw} (h:aG w g m):w.cell? ⟨g,1,none⟩=some (.slice m.veco m.vecn m.vecc):=by unfold aG at h;simp [World.cell?,h,FaC]
theorem aG.c2 {m:cw} (h:aG w g m):w.cell? ⟨g,2,none⟩=some (.slice m.cloudo m.cloudn m.cloudc):=by unfold aG at h;simp [World.cell?,h,FaC]
theorem aG.c3 {m:cw} (h:aG w g m):w.cell? ⟨g,3,none⟩=some (.slice m.recso m.recsn m.recsc):=by unfold aG at h;simp [World.cell?,h,FaC]
theorem qs (w:World) (m:cw):aG (w.alloc (.cells (FaC m) 31)) w.heap.size m:=by unfold aG;rw [heap_alloc_new]
def ms (v:Value):Sem Value:=Instr.loadAt 31 v
theorem zP (v:Value):Instr.loadAt 31 v=ms v:=rfl
def oZ (p v:Value):Sem Unit:=Instr.storeAt 31 p v
theorem zO (p v:Value):Instr.storeAt 31 p v=oZ p v:=rfl
theorem oG:(Tryz.prog.info? 31).map (·.size)=some 4:=by kernel_rfl
theorem aG.range {m:cw} (h:aG w g m):w.rangeAt g 0 (FaC m).toList:=by
 intro j v hv;rw [Nat.zero_add];unfold aG at h;simp only [Array.getElem?_toList] at hv;simp [World.cell?,h,hv]
theorem zaf {m:cw} (A:aG w g m):(loadVar 31 ⟨g,0,none⟩).run Tryz.prog w = .ok (FaV m) w:=by
 have:=run_loadVar_mid (P:=Tryz.prog) w g 0 31 (FaC m).toList _ A.range Tryz.underlying31 rfl (by rw [oG];rfl);simpa using this
theorem qt {m:cw} (A:aG w g m):(ms (.pointer (some ⟨g,0,none⟩))).run Tryz.prog w = .ok (.agg (FaC m)) w:=by
 unfold ms;simp only [Instr.loadAt,Instr.sureAddr,Sem.run_bind,Sem.run_pure,Result.andThen];exact zaf A
theorem xJ {m m':cw} (A:aG w g m):(oZ (.pointer (some ⟨g,0,none⟩)) (.agg (FaC m'))).run Tryz.prog w = .ok () (w.setRow g (FaC m')):=by
 unfold oZ;have h:=run_storeCells_from (P:=Tryz.prog) g 31 (FaC m').toList 0 (FaC m) w A (by simp [FaC]) (zgb m')
 cases hq:Tryz.prog.info? 31 with
 | none=>have:=oG;simp [hq] at this
 | some x =>
  have hs:x.size=4:=by have:=oG;simpa [hq] using this
  simp only [Instr.storeAt,Instr.sureAddr,Sem.run_bind,Sem.run_pure,Result.andThen,storeVar,sizeOf,typeInfo,zl,zr];simp at h;simp [h,hq,hs]
theorem aG.setRow {m m':cw} (A:aG w g m):aG (w.setRow g (FaC m')) g m':=setRow_heap w g _ _ _ _ A
theorem Ck {m:cw} {fn:Func} {p:Tmp} (h:fn.results=#[.cell p 31]) {tmps:Array Value} (hp:tmps.getD p undef = .pointer (some ⟨g,0,none⟩)) (A:aG w g m) :
  (results fn tmps).run Tryz.prog w = .ok (FaV m) w:=by
 have hl:=zaf A;simp only [results,h];rw [Array.getD_eq_getD_getElem?] at hp;simp [hp,asAddr,hl]
theorem aG.cs {w:World} {g:Nat} {f:Fc} (h:aG w g (mkF f)):w.cell? ⟨g,0,none⟩=some (.slice f.ao f.an f.ac)/\w.cell? ⟨g,3,none⟩=some (.slice f.ro f.rn f.rc):=⟨h.c0,h.c3⟩
theorem aG.past {w:World} {g:Nat} {f:Fc} (h:aG w g (mkF f)):PAt w ⟨g,1,none⟩ f.p:=⟨h.c1,h.c2⟩
theorem aG.ne {W:World} {g:Nat} {m:cw} (A:aG W g m) {a:Addr} {v:Value} (hc:W.cell? a=some v) (hv:∀ o n c,v ≠ .slice o n c):a.block≠g:=by
 rintro rfl;obtain ⟨b,o,k⟩:=a;unfold aG at A;have h:=World.cell?_spot hc;obtain rfl:k=none:=h;simp only [World.cell?,A] at hc;rcases o with _ | _ | _ | _ | o <;> simp [FaC] at hc
 all_goals exact absurd hc.symm (hv _ _ _)
theorem qO {W:World} {g:Nat} {a:Addr} (c:Array Value) (h:a.block≠g):(W.setRow g c).cell? a=W.cell? a:=by
 unfold World.cell?;rw [setRow_other _ _ _ _ h]
theorem zfD {W:World} {g:Nat} {m:cw} {ao:Option Addr} {n cap:Nat} {L:List K.En} (A:aG W g m) (h:K.aD W ao n cap L) (c:Array Value):K.aD (W.setRow g c) ao n cap L:=by
 refine ⟨h.1,h.2.1,fun ad e t ht=>?_,h.2.2.2⟩;have B:=h.2.2.1 ad e t ht;have hb:(ad.add (t * 4)).block≠g:=A.ne B.c0 (fun _ _ _ h=>by cases h);exact ⟨by rw [qO c hb];exact B.c0,by rw [qO c (by rw [zs];exact hb)];exact B.c1,by rw [qO c (by rw [zs];exact hb)];exact B.c2,by rw [qO c (by rw [zs];exact hb)];exact B.c3⟩
theorem zbo {W:World} {g:Nat} {m:cw} {p:Pv} (A:aG W g m) (h:am W p) (c:Array Value):am (W.setRow g c) p:=by
 refine ⟨⟨h.vec.1,h.vec.2.1,fun ad e t ht=>?_⟩,⟨h.cloud.len,h.cloud.nil,fun ad e t ht=>?_,h.cloud.big,h.cloud.cap⟩,h.big⟩
 ·have B:=h.vec.2.2 ad e t ht;rw [qO c (A.ne B (fun _ _ _ h=>by cases h))];exact B
 ·have B:=h.cloud.cell ad e t ht;have hb:=A.ne B.c0 (fun _ _ _ h=>by cases h);exact ⟨by rw [qO c hb];exact B.c0,by rw [qO c (by rw [zs];exact hb)];exact B.c1,by rw [qO c (by rw [zs];exact hb)];exact B.c2⟩
theorem zgC {W:World} {g:Nat} {m:cw} {ao:Option Addr} {n cap:Nat} {L:List Rc} (A:aG W g m) (h:RcS W ao n cap L) (c:Array Value):RcS (W.setRow g c) ao n cap L:=by
 refine ⟨h.len,h.nil,fun ad ha t ht=>?_,fun r hr=>⟨zbo A (h.ok r hr).1 c,(h.ok r hr).2⟩,h.big⟩;have B:=h.at_ ad ha t ht;have hb:=A.ne B.c0 (fun _ _ _ h=>by cases h);exact ⟨by rw [qO c hb];exact B.c0,by rw [qO c (by rw [zs];exact hb)];exact B.c1,by rw [qO c (by rw [zs];exact hb)];exact B.c2⟩
theorem aU.offW {W:World} {g:Nat} {m:cw} {f:Fc} (h:aU W f) (A:aG W g m) (c:Array Value):aU (W.setRow g c) f:=⟨zfD A h.es c,zbo A h.p c,zgC A h.rs c⟩
theorem lu {w:World} {g:Nat} {fn:Func} {p q:Tmp} {m:cw} {v:Value} (h:fn.results=#[.cell p 31,.tmp q]) {tmps:Array Value} (hp:tmps.getD p undef = .pointer (some ⟨g,0,none⟩)) (hq:tmps.getD q undef=v) (A:aG w g m) :
  (results fn tmps).run Tryz.prog w = .ok (.tuple #[FaV m,v]) w:=by
 have hl:=zaf A;simp only [results,h];rw [Array.getD_eq_getD_getElem?] at hp hq;simp [hp,hq,asAddr,hl]
def rf (a:Array (Nat × Value)):Sem Value:=Instr.build 31 a
theorem xe (a:Array (Nat × Value)):Instr.build 31 a=rf a:=rfl
theorem qF (w:World):(rf #[]).run Tryz.prog w = .ok (.agg (FaC (mkF fz0))) w:=by kernel_rfl
theorem xL (a b:Option Addr) (n c m d:Nat) (p:Pv) (w:World):(rf #[(0,.slice a n c),(1,.agg (PC p)),(2,.slice b m d)]).run Tryz.prog w = .ok (.agg (FaC (mkF ⟨a,n,c,[],p,b,m,d,[]⟩))) w:=by kernel_rfl
def SwE (w w':World) (e:Ending) (D:Fc -> Int -> Prop):Prop:=∃ s er,e = .returned (.tuple #[FaV (mkF s),.int .i64 er])/\aU w' s/\Below w.heap.size w w'/\D s er
def SwS (w w':World) (e:Ending) (D:Fc -> Prop):Prop:=∃ s,e = .returned (FaV (mkF s))/\aU w' s/\Below w.heap.size w w'/\D s
end
end Go.Proofs.YtjffpimfngdggaaGreat
