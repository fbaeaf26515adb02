/- LCpt LCp LRis LSor LSo2 LShg LCct LUp -/
import Derived.Test.YtaphmhbmhcahaaaGreatSo26
import Derived.Deep.LoopGhost
import Derived.Shelf.SlSortCmp.NoneTotal
import Derived.Lib.SliceRun
import Derived.Shelf.Spec.SlicesGrow
import Derived.Test.YtaphmhbmhcahaaaGreatProg
import Derived.Laws.AppendOwnNone
import Derived.Test.YtaphmhbmhcahaaaGreatSo16
set_option maxRecDepth 100000
set_option maxHeartbeats 8000000
namespace Go.Proofs.YtaphmhbmhcahaaaGreat.K
section
open Go.RowKit Go.Lib
attribute [local go_sem ↓] ld28_eq st28_eq run_eq28
attribute [local go_sem] zero_EC cells_EV EC_size
theorem add_add (p:Addr) (i j:Nat):(p.add i).add j=p.add (i+j):=by
 unfold Addr.add;split <;> split <;> simp_all [Nat.add_assoc]
def cl22 (a:Value):Sem Value:=Builtin.clear_ #[22] 0 #[a]
theorem cl22_eq (a:Value):Builtin.clear_ #[22] 0 #[a]=cl22 a:=rfl
attribute [local go_sem ↓] cl22_eq
def CompOut (w w':World) (e:Ending) (ad:Addr) (cap:Nat) (d:Array En):Prop:=
 ∃ k d',e = .returned (.slice (some ad) k cap)/\MR w' ad d'/\k <= d.size/\d'.size=d.size/\d'.toList.take k=compactUpTo d d.size/\Below ad.block w w'
theorem compOut_all {w w':World} {ad:Addr} {cap n:Nat} {d:Array En} (hn:d.size=n) (M:MR w' ad d) (hb:Below ad.block w w') (hall:∀ j,j < d.size -> keeps d j=true):CompOut w w' (.returned (.slice (some ad) n cap)) ad cap d:=
 ⟨n,d,rfl,M,by omega,rfl,by rw [compactUpTo_all d _ hall,range_map_get,List.take_of_length_le (by simp;omega)],hb⟩
theorem comp_low {d dk d':Array En} {n kk:Nat} (hI:CompInv d n kk dk) (hn:d.size=n) (hs:d'.size=dk.size) (hl:∀ j,j < kk -> d'[j]! = dk[j]!):d'.toList.take kk=compactUpTo d d.size:=by
 rw [hn];have hkk:=hI.lt;have hsz:=hI.size;apply List.ext_getElem?;intro j;by_cases hj:j < kk
 ·rw [hI.low j hj,<- hl j hj,List.getElem?_take,if_pos hj,Array.getElem?_toList,Array.getElem?_eq_getElem (by omega),getElem!_pos d' j (by omega)]
 ·rw [List.getElem?_eq_none (by rw [List.length_take];omega),List.getElem?_eq_none (by rw [hI.len];omega)]
theorem compact_any (ad:Addr) (cap n:Nat) (d:Array En) (w:World) (M:MR w ad d) (hn:d.size=n) (hb:n <= 3518437208883) (hcap:n <= cap) (hcm:cap <= 9223372036854775807) :
  Calls Tryz.prog 148 #[.slice (some ad) n cap] w fun e w'=>CompOut w w' e ad cap d:=by
 have HM:=hide M;have HN:=hide hn;have HLT:Hid (ad.block <= w.heap.size):=Nat.le_of_lt M.lt;clear M hn;by_cases h2:n < 2
 ·have HF:Hid (CompOut w w (.returned (.slice (some ad) n cap)) ad cap d):=compOut_all HN.out HM.out (Below.refl _ _) (fun j hj=>keeps_lt_one d j (by have:=HN.out;omega));go_enter Tryz.func148,Tryz.ntmps148;go_wp2_with fail;go_ret;exact HF.out
 ·go_enter Tryz.func148,Tryz.ntmps148;go_wp2_with fail;go_loopg [3] n (fun g s wr=>∃ k:Nat,1 <= k/\k <= n/\n - k <= g/\s = .int .i64 k/\Hid (Below w.heap.size w wr/\∀ j,j < k -> keeps d j=true))
  case atStart=>exact ⟨1,Nat.le_refl _,by omega,by omega,rfl,Below.refl _ _,keeps_lt_one d⟩
  case round =>
   obtain ⟨k,hk1,hk,hg,rfl,H⟩:=hrel
   rename World=>w4
   have HM4:=hide (HM.out.on H.out.1);by_cases hlt:k < n
   ·obtain ⟨j,hj⟩:∃ j,k - 1=j:=⟨_,rfl⟩
    have hz:IntKind.i64.wrap ((k:Int) - 1)=(j:Int):=by rw [IntKind.wrap_i64];omega
    have hjn:j < n:=by omega
    have A0:=hide (HM4.out.at k (by rw [HN.out];exact hlt));have A1:=hide (HM4.out.at j (by rw [HN.out];exact hjn));obtain ⟨x,Hx⟩:∃ x,Hid (d[k]! = x):=⟨_,rfl⟩;obtain ⟨y,Hy⟩:∃ y,Hid (d[j]! = y):=⟨_,rfl⟩;rw [Hx.out] at A0;rw [Hy.out] at A1;have Hj:=hide hj;clear hj;have l0:∀ d os,(ld28 (.pointer (some (ad.add (k * 4))))).run Tryz.prog (Sort.grow (redrawn w4 d) os) = .ok (EV x) (Sort.grow (redrawn w4 d) os):=fun d os=>run_ld28 (A0.out.on (below_regrown w4 d os));have l1:∀ d os,(ld28 (.pointer (some (ad.add (j * 4))))).run Tryz.prog (Sort.grow (redrawn w4 d) os) = .ok (EV y) (Sort.grow (redrawn w4 d) os):=fun d os=>run_ld28 (A1.out.on (below_regrown w4 d os));obtain ⟨q,hq⟩:∃ q,eqE x y=q:=⟨_,rfl⟩
    cases q with
    | false =>
     have HK:Hid (keeps d k=true):=keeps_pos (by rw [Hj.out,Hx.out,Hy.out];intro h;rw [(eqE_iff x y).2 h] at hq;cases hq);go_wp2_with fail;refine wp_region_quiet_below (by kernel_rfl) (by kernel_rfl) ?_
     repeat (with_reducible (refine wpQuiet_step ?_);intro K hK;go_simp;(try rw [if_neg (by unfold undef;simp)]);first | (with_reducible (refine hK _ ?_);clear hK K) | (apply Exists.intro;refine ⟨fun _=>?_,hK _ ?_⟩;(fail);clear hK K))
     with_reducible (refine wpQuiet_nil ?_)
     intro w5 hw';obtain ⟨⟨dq,osq⟩,hw''⟩:=hw'
     have b5:Below w4.heap.size w4 w5:=by rw [hw''];exact below_regrown w4 dq osq
     clear hw'' dq osq
     have H5:Hid (Below w.heap.size w w5/\∀ j,j < k+1 -> keeps d j=true):=⟨H.out.1.trans (b5.mono H.out.1.size),fun i hi=>by
      by_cases e:i=k
      ·rw [e];exact HK.out
      ·exact H.out.2 i (by omega)⟩
     clear b5 l0 l1;go_wp2_with fail;go_roundg (n - (k+1))
     case measure=>omega
     case rel=>exact ⟨k+1,by omega,by omega,Nat.le_refl _,by go_num,H5⟩
    | true =>
     have HK:Hid (keeps d k=false):=keeps_neg (by omega) (by rw [Hj.out,Hx.out,Hy.out];exact (eqE_iff x y).1 hq);go_wp2_with fail;refine wp_region_quiet_below (by kernel_rfl) (by kernel_rfl) ?_
     repeat (with_reducible (refine wpQuiet_step ?_);intro K hK;go_simp;(try rw [if_neg (by unfold undef;simp)]);first | (with_reducible (refine hK _ ?_);clear hK K) | (apply Exists.intro;refine ⟨fun _=>?_,hK _ ?_⟩;(fail);clear hK K))
     with_reducible (refine wpQuiet_nil ?_)
     intro w5 hw';obtain ⟨⟨dq,osq⟩,hw''⟩:=hw'
     have b5:Below w4.heap.size w4 w5:=by rw [hw''];exact below_regrown w4 dq osq
     clear hw'' dq osq;have HM5:=hide (HM4.out.on b5);have HB5:Hid (Below ad.block w w5):=(H.out.1.mono HLT.out).trans (b5.mono (Nat.le_trans HLT.out H.out.1.size));have HC5:Hid (CompInv d (k+1) k d):=CompInv.start H.out.2 HK.out;clear b5 l0 l1 hq;go_wp2_with fail;go_loopg [3,5] n (fun g s3 s5 wr=>∃ (kk k2:Nat) (dk:Array En),1 <= k2/\k+k2 <= n/\kk < n/\n - (k+k2) <= g/\s3 = .int .i64 kk/\s5 = .int .i64 k2/\Hid (MR wr ad dk/\CompInv d (k+k2) kk dk/\Below ad.block w wr))
     case atStart=>exact ⟨k,1,d,Nat.le_refl _,by omega,hlt,by omega,rfl,rfl,HM5.out,HC5.out,HB5.out⟩
     case round =>
      obtain ⟨kk,k2,dk,hk2,hkn,hkk,hg2,rfl,rfl,HI⟩:=hrel
      rename World=>w6
      clear HM5 HC5 HB5 HM4 A0 A1;have HD:Hid (dk.size=n):=HI.out.2.1.size.trans HN.out;by_cases hlt2:k2 < n - k
      ·obtain ⟨j2,hj2⟩:∃ j2,k2 - 1=j2:=⟨_,rfl⟩
       have hz2:IntKind.i64.wrap ((k2:Int) - 1)=(j2:Int):=by rw [IntKind.wrap_i64];omega
       have hjn2:j2 < n - k:=by omega
       have A0:=hide (HI.out.1.at (k+k2) (by rw [HD.out];omega));have A1:=hide (HI.out.1.at (k+j2) (by rw [HD.out];omega));have hkk2:=HI.out.2.1.lt;obtain ⟨u,Hu⟩:∃ u,Hid (d[k+k2]! = u):=⟨_,rfl⟩;obtain ⟨v,Hv⟩:∃ v,Hid (d[k+j2]! = v):=⟨_,rfl⟩;rw [HI.out.2.1.high (k+k2) (by omega),Hu.out,Nat.add_mul,<- add_add] at A0;rw [HI.out.2.1.high (k+j2) (by omega),Hv.out,Nat.add_mul,<- add_add] at A1
       have Hj2:Hid (k+k2 - 1=k+j2):=by show _=_;omega
       clear hj2;have l0:∀ d os,(ld28 (.pointer (some ((ad.add (k * 4)).add (k2 * 4))))).run Tryz.prog (Sort.grow (redrawn w6 d) os) = .ok (EV u) (Sort.grow (redrawn w6 d) os):=fun d os=>run_ld28 (A0.out.on (below_regrown w6 d os));have l1:∀ d os,(ld28 (.pointer (some ((ad.add (k * 4)).add (j2 * 4))))).run Tryz.prog (Sort.grow (redrawn w6 d) os) = .ok (EV v) (Sort.grow (redrawn w6 d) os):=fun d os=>run_ld28 (A1.out.on (below_regrown w6 d os));obtain ⟨q2,hq2⟩:∃ q2,eqE u v=q2:=⟨_,rfl⟩
       cases q2 with
       | true =>
        have HNX:Hid (CompInv d (k+k2+1) kk dk):=HI.out.2.1.skip (keeps_neg (by omega) (by rw [Hj2.out,Hu.out,Hv.out];exact (eqE_iff u v).1 hq2));go_wp2_with fail;refine wp_region_quiet_below (by kernel_rfl) (by kernel_rfl) ?_
        repeat (with_reducible (refine wpQuiet_step ?_);intro K hK;go_simp;(try rw [if_neg (by unfold undef;simp)]);first | (with_reducible (refine hK _ ?_);clear hK K) | (apply Exists.intro;refine ⟨fun _=>?_,hK _ ?_⟩;(fail);clear hK K))
        with_reducible (refine wpQuiet_nil ?_)
        intro w7 hw';obtain ⟨⟨dq,osq⟩,hw''⟩:=hw'
        have b7:Below w6.heap.size w6 w7:=by rw [hw''];exact below_regrown w6 dq osq
        clear hw'' dq osq;have H7:Hid (MR w7 ad dk/\CompInv d (k+(k2+1)) kk dk/\Below ad.block w w7):=⟨HI.out.1.on b7,HNX.out,HI.out.2.2.trans (b7.mono (Nat.le_of_lt HI.out.1.lt))⟩;clear b7 l0 l1;go_wp2_with fail;go_roundg (n - (k+(k2+1)))
        case measure=>omega
        case rel=>exact ⟨kk,k2+1,dk,by omega,by omega,hkk,Nat.le_refl _,rfl,by go_num,H7⟩
       | false =>
        have HNX:Hid (CompInv d (k+k2+1) (kk+1) (dk.setIfInBounds kk u)):=by
         have:=HI.out.2.1.keep (by rw [HN.out];omega) (keeps_pos (by rw [Hj2.out,Hu.out,Hv.out];intro h;rw [(eqE_iff u v).2 h] at hq2;cases hq2));rwa [Hu.out] at this
        go_wp2_with fail;refine wp_region_quiet_below (by kernel_rfl) (by kernel_rfl) ?_
        repeat (with_reducible (refine wpQuiet_step ?_);intro K hK;go_simp;(try rw [if_neg (by unfold undef;simp)]);first | (with_reducible (refine hK _ ?_);clear hK K) | (apply Exists.intro;refine ⟨fun _=>?_,hK _ ?_⟩;(fail);clear hK K))
        with_reducible (refine wpQuiet_nil ?_)
        intro w7 hw';obtain ⟨⟨dq,osq⟩,hw''⟩:=hw'
        have b7:Below w6.heap.size w6 w7:=by rw [hw''];exact below_regrown w6 dq osq
        clear hw'' dq osq;have l7:=run_ld28 (A0.out.on b7);obtain ⟨w8,hst,M8,B8,_⟩:=(HI.out.1.on b7).store kk u (by rw [HD.out];exact hkk);have H8:Hid (MR w8 ad (dk.setIfInBounds kk u)/\CompInv d (k+(k2+1)) (kk+1) (dk.setIfInBounds kk u)/\Below ad.block w w8):=⟨M8,HNX.out,(HI.out.2.2.trans (b7.mono (Nat.le_of_lt HI.out.1.lt))).trans B8⟩;clear b7 l0 l1 M8 B8;go_wp2_with fail;go_roundg (n - (k+(k2+1)))
        case measure=>omega
        case rel=>exact ⟨kk+1,k2+1,dk.setIfInBounds kk u,by omega,by omega,by omega,Nat.le_refl _,by go_num,by go_num,H8⟩
      ·have hend:k+k2=n:=by omega
       obtain ⟨w7,d',hcl,M7,hs7,hl7,B7,_⟩:=HI.out.1.clear kk (by rw [HD.out];exact hkk) (cap - kk);rw [HD.out] at hcl;have hcl0:(cl22 (.slice (some (ad.add (kk * 4))) (n - kk) (cap - kk))).run Tryz.prog w6 = .ok (.tuple #[]) w7:=hcl 0
       have HF:Hid (CompOut w w7 (.returned (.slice (some ad) kk cap)) ad cap d):=by
        have hI:=HI.out.2.1;rw [hend] at hI;exact ⟨kk,d',rfl,M7,by rw [HN.out];omega,hs7.trans hI.size,comp_low hI HN.out hs7 hl7,HI.out.2.2.trans B7⟩
       clear hcl M7 hs7 hl7 B7;go_wp2_with fail;go_ret;exact HF.out
   ·have HF:Hid (CompOut w w4 (.returned (.slice (some ad) n cap)) ad cap d):=compOut_all HN.out HM4.out (H.out.1.mono HLT.out) (fun j hj=>H.out.2 j (by have:=HN.out;omega));go_wp2_with fail;go_ret;exact HF.out
end
section
open Go.RowKit Go.Lib

theorem cmp_sub (d:Array En):(compactUpTo d d.size).Sublist d.toList:=by
 have h:(compactUpTo d d.size).Sublist ((List.range d.size).map (d[·]!)):=List.filter_sublist.map _;rwa [range_map_get] at h
theorem bang_at (d:Array En) (i:Nat) (h:i < d.size):d[i]! = d[i]:=getElem!_pos d i h
theorem cmp_mem (d:Array En) (m:Nat):m <= d.size -> ∀ j,j < m -> d[j]! ∈ compactUpTo d m:=by
 induction m with
 | zero=>intro _ j hj;omega
 | succ m ih =>
  intro hm j hj;rw [compactUpTo_succ];by_cases e:j=m
  ·subst e;by_cases hk:keeps d j=true
   ·rw [if_pos hk];simp
   ·rw [if_neg hk,List.append_nil]
    have hk':¬ (j=0∨d[j]! ≠ d[j - 1]!):=by simpa [keeps] using hk
    have h0:¬ j=0:=fun h=>hk' (Or.inl h);have h1:d[j]! = d[j - 1]! := Classical.byContradiction fun h=>hk' (Or.inr h);rw [h1];exact ih (by omega) (j - 1) (by omega)
  ·exact List.mem_append_left _ (ih (by omega) j (by omega))
theorem cmp_iff (d:Array En) (x:En):x∈compactUpTo d d.size↔x∈d.toList:=by
 constructor
 ·exact fun h=>(cmp_sub d).mem h
 ·intro h;obtain ⟨i,hi,rfl⟩:=List.mem_iff_getElem.1 h
  have hi':i < d.size:=by simpa using hi
  have:=cmp_mem d d.size (Nat.le_refl _) i hi';rw [bang_at d i hi'] at this;simpa using this
theorem cmp_last (d:Array En) (m:Nat):0 < m -> (compactUpTo d m).getLast? = some d[m - 1]! := by
 induction m with
 | zero=>intro h;omega
 | succ m ih =>
  intro _;rw [compactUpTo_succ];by_cases hk:keeps d m=true
  ·rw [if_pos hk];simp
  ·rw [if_neg hk,List.append_nil]
   have hk':¬ (m=0∨d[m]! ≠ d[m - 1]!):=by simpa [keeps] using hk
   have h0:¬ m=0:=fun h=>hk' (Or.inl h);have h1:d[m]! = d[m - 1]! := Classical.byContradiction fun h=>hk' (Or.inr h);rw [ih (by omega),show m+1 - 1=m by omega,h1]
theorem cmp_adj (d:Array En) (m:Nat):∀ i,i+1 < (compactUpTo d m).length -> (compactUpTo d m).getD i en0≠(compactUpTo d m).getD (i+1) en0:=by
 induction m with
 | zero=>intro i hi;simp [compactUpTo] at hi
 | succ m ih =>
  intro i hi;by_cases hk:keeps d m=true
  ·rw [compactUpTo_succ,if_pos hk] at hi ⊢;rw [List.length_append,List.length_singleton] at hi;by_cases e:i+1 < (compactUpTo d m).length
   ·have:=ih i e;simpa [List.getD,List.getElem?_append_left,e,show i < (compactUpTo d m).length by omega] using this
   ·have el:i+1=(compactUpTo d m).length:=by omega
    have hm:0 < m:=by
     rcases Nat.eq_zero_or_pos m with h | h
     ·subst h;simp [compactUpTo] at el
     ·exact h
    have hl:=cmp_last d m hm;rw [List.getLast?_eq_getElem?,<- el,Nat.add_sub_cancel] at hl
    have hne:d[m]! ≠ d[m - 1]! := by
     have:m=0∨d[m]! ≠ d[m - 1]! := by simpa [keeps] using hk
     rcases this with h | h
     ·omega
     ·exact h
    rw [List.getD,List.getElem?_append_left (by omega),hl,List.getD,List.getElem?_append_right (by omega),el,Nat.sub_self];simpa using fun h=>hne h.symm
  ·rw [compactUpTo_succ,if_neg hk,List.append_nil] at hi ⊢;exact ih i hi
theorem asc_of_adj (C:List En) (h:∀ i,i+1 < C.length -> ahead (C.getD i en0) (C.getD (i+1) en0)=true):Asc C:=by
 have key:∀ k i,i+k+1 < C.length -> ahead (C.getD i en0) (C.getD (i+k+1) en0)=true:=by
  intro k
  induction k with
  | zero=>intro i hi;exact h i hi
  | succ k ih=>intro i hi;exact ahead_trans (ih i (by omega)) (h (i+k+1) (by omega))
 refine List.pairwise_iff_getElem.2 fun i j hi hj hij=>?_;have:=key (j - i - 1) i (by omega);rw [show i+(j - i - 1)+1=j by omega] at this;simpa [List.getD,hi,hj] using this
def AdjN (C:List En) (k:Nat):Prop:=∀ i,i+1 < k -> sameDot (C.getD (i+1) en0) (C.getD i en0)=false
theorem settled_done {d:Array En} {C:List En} (hC:C=compactUpTo d d.size) (hp:d.toList.Pairwise (fun x y=>leE x y=true)) (h:AdjN C C.length):Settled d.toList C 0:=by
 have hle:C.Pairwise (fun x y=>leE x y=true):=by rw [hC];exact hp.sublist (cmp_sub d)
 have ha:Asc C:=asc_of_adj C fun i hi=>ahead_of (le_at hle i (i+1) (by omega) hi) (h i hi)
 have hm:∀ x,x∈C↔x∈d.toList:=fun x=>by rw [hC];exact cmp_iff d x
 exact Or.inr ⟨asc_noclash ha hm,rfl,ha,hm⟩
theorem settled_clash {d:Array En} {C:List En} (hC:C=compactUpTo d d.size) (i:Nat) (hi:i+1 < C.length) (hs:sameDot (C.getD i en0) (C.getD (i+1) en0)=true):Settled d.toList [] 10:=by
 have hm:∀ x,x∈C -> x∈d.toList:=fun x hx=>by rw [hC] at hx;exact (cmp_iff d x).1 hx
 have hne:C.getD i en0≠C.getD (i+1) en0:=by subst hC;exact cmp_adj d d.size i hi
 exact Or.inl ⟨⟨_,hm _ (getD_mem C i (by omega)),_,hm _ (getD_mem C (i+1) hi),hs,hne⟩,rfl,rfl⟩
end
section
open Go.RowKit Go.Lib
attribute [local go_sem ↓] ld28_eq st28_eq ld26_eq run_eqD
attribute [local go_sem] zero_EC cells_EV EC_size
def GivesTB (B:Nat) (w w':World) (e:Ending) (L:List En):Prop:=∃ ao n c R er,e = .returned (.tuple #[.slice ao n c,.int .i64 er])/\ESrc w' ao n c R/\Below B w w'/\(∀ ad,ao=some ad -> B <= ad.block)/\Settled L R er
theorem settled_nil:Settled [] [] 0:=Or.inr ⟨(fun ⟨_,h,_⟩=>by cases h),rfl,List.Pairwise.nil,fun _=>Iff.rfl⟩
theorem sort0 (ao:Option Addr) (cap:Nat) (w:World):Calls Tryz.prog 147 #[.slice ao 0 cap,.func (.func 122) #[] #[]] w fun e w'=>e = .returned (.tuple #[])/\w'=w:=AnyF.slices_SortFunc_none Tryz.sortEn ao cap _ w
theorem compact0 (ao:Option Addr) (cap:Nat) (w:World):Calls Tryz.prog 148 #[.slice ao 0 cap] w fun e w'=>e = .returned (.slice ao 0 cap)/\w'=w:=by
 go_enter Tryz.func148,Tryz.ntmps148;go_wp2_with fail;go_ret;exact ⟨rfl,rfl⟩
theorem rising0 (ao:Option Addr) (cap:Nat) (w:World):Calls Tryz.prog 112 #[.slice ao 0 cap] w fun e w'=>e = .returned (.tuple #[.slice ao 0 cap,.int .i64 0])/\Below w.heap.size w w':=by
 have HB:Hid (Below w.heap.size w w):=Below.refl _ _;go_enter Tryz.func112,Tryz.ntmps112;go_wp2_with fail;refine (sort0 ao cap _).mono ?_;rintro e w1 ⟨rfl,rfl⟩;go_wp2_with fail;refine (compact0 ao cap _).mono ?_;rintro e w2 ⟨rfl,rfl⟩;go_wp2_with fail;go_loopw [4,11] (fun _ i wr=>i = .int .i64 0/\wr=w2) (fun _ _ _=>0)
 case atStart=>exact ⟨rfl,rfl⟩
 case round =>
  obtain ⟨rfl,rfl⟩:=hrel;go_wp2_with fail;go_ret2;exact ⟨rfl,HB.out⟩
theorem MR.esrc {W:World} {ad:Addr} {d:Array En} (M:MR W ad d) (k c:Nat) (hk:k <= d.size) (C:List En) (hC:d.toList.take k=C) (hs:∀ e∈C,e.sku.size <= maxLen) (hm:k <= 3518437208883):ESrc W (some ad) k c C:=by
 subst hC;refine ⟨by rw [List.length_take,Array.length_toList];omega,fun h=>(by cases h),fun ad' h t ht=>?_,hs,hm⟩;obtain rfl:=Option.some.inj h
 have e:(d.toList.take k).getD t en0=d[t]! := by
  rw [List.getD,List.getElem?_take,if_pos ht,Array.getElem?_toList,Array.getElem?_eq_getElem (by omega),getElem!_pos d t (by omega)];rfl
 rw [e];exact M.at t (by omega)
theorem rising_any (ad:Addr) (cap n:Nat) (d:Array En) (w:World) (M:MR w ad d) (hn:d.size=n) (hb:n <= 3518437208883) (hcap:n <= cap) (hcm:cap <= 9223372036854775807) (hsk:∀ e∈d.toList,e.sku.size <= maxLen) :
  Calls Tryz.prog 112 #[.slice (some ad) n cap] w fun e w'=>GivesTB ad.block w w' e d.toList:=by
 have HM:=hide M;have HN:=hide hn;have HSK:=hide hsk;have HC:=hide hcap;have HCM:=hide hcm;clear M hn hsk hcap hcm;go_enter Tryz.func112,Tryz.ntmps112;go_wp2_with fail;refine (sortFunc_any ad cap n d _ HM.out HN.out hb).mono ?_;rintro e w1 ⟨rfl,d1,hp,hs,M1,b1⟩;have HP:=hide hp;have HS:=hide hs;have HM1:=hide M1;have HB1:=hide b1;clear hp hs M1 b1
 have HN1:Hid (d1.size=n):=by have:=HP.out.length_eq;rw [Array.length_toList,Array.length_toList,HN.out] at this;exact this
 go_wp2_with fail;refine (compact_any ad cap n d1 _ HM1.out HN1.out hb HC.out HCM.out).mono ?_;rintro e w2 ⟨k,d2,rfl,M2,hk,hs2,ht,b2⟩;obtain ⟨C,hCt⟩:∃ C,d2.toList.take k=C:=⟨_,rfl⟩;have HCT:=hide hCt;have HCC:Hid (C=compactUpTo d1 d1.size):=hCt.symm.trans ht;have HM2:=hide M2;have HB2:Hid (Below ad.block w w2):=HB1.out.trans b2
 have HK:Hid (k <= d2.size):=by show _ <= _;rw [hs2];exact hk
 have hkn:k <= n:=by have:=HN1.out;omega
 have HLC:Hid (C.length=k):=by show _=_;rw [<- hCt,List.length_take,Array.length_toList];have:=HK.out;omega
 have HSC:Hid (∀ e∈C,e.sku.size <= maxLen):=fun e he=>by
  rw [HCC.out] at he;exact HSK.out e (HP.out.mem_iff.1 ((cmp_iff d1 e).1 he))
 have HPM:Hid (∀ x,x∈d1.toList↔x∈d.toList):=fun x=>HP.out.mem_iff;clear hCt ht M2 b2 hs2 hk HB1 HM1;go_wp2_with fail;go_loopw [4,11] (fun _ i wr=>∃ k0:Nat,k0 <= k/\i = .int .i64 k0/\Hid (AdjN C k0/\Below w2.heap.size w2 wr)) (fun _ i _=>k - (intOf i).toNat)
 case atStart=>exact ⟨0,Nat.zero_le _,rfl,fun i hi=>by omega,Below.refl _ _⟩
 case round =>
  obtain ⟨k0,hk0,rfl,H⟩:=hrel
  rename World=>w4
  have HLT:Hid (ad.block <= w2.heap.size):=Nat.le_of_lt HM2.out.lt;have HM4:=hide (HM2.out.on H.out.2);by_cases hlt:k0 < k
  ·by_cases h0:k0=0
   ·subst h0;go_wp2_with fail;refine wp_region_quiet_below (by kernel_rfl) (by kernel_rfl) ?_
    repeat (with_reducible (refine wpQuiet_step ?_);intro K hK;go_simp;(try rw [if_neg (by unfold undef;simp)]);first | (with_reducible (refine hK _ ?_);clear hK K) | (apply Exists.intro;refine ⟨fun _=>?_,hK _ ?_⟩;(fail);clear hK K))
    with_reducible (refine wpQuiet_nil ?_)
    intro w5 hw';obtain ⟨⟨dq,osq⟩,hw''⟩:=hw'
    have b5:Below w4.heap.size w4 w5:=by rw [hw''];exact below_regrown w4 dq osq
    clear hw'' dq osq;have H5:Hid (AdjN C (0+1)/\Below w2.heap.size w2 w5):=⟨fun i hi=>by omega,H.out.2.trans (b5.mono H.out.2.size)⟩;clear b5;go_wp2_with fail;go_roundw
    case rel=>exact ⟨0+1,by omega,by go_num,H5⟩
    case measure=>simp [intOf];omega
   ·obtain ⟨j,hj⟩:∃ j,k0 - 1=j:=⟨_,rfl⟩
    have hz:IntKind.i64.wrap ((k0:Int) - 1)=(j:Int):=by rw [IntKind.wrap_i64];omega
    have hjn:j < k:=by omega
    have hd0:decide ((0:Int) < (k0:Int))=true:=decide_eq_true (by omega)
    have hpos:0 < k0:=by omega
    have Hj:Hid (k0=j+1):=by show _=_;omega
    have S4:=HM4.out.esrc k cap HK.out C HCT.out HSC.out (by omega);have A0:=hide (S4.2.2.1 ad rfl k0 hlt);have A1:=hide (S4.2.2.1 ad rfl j hjn);obtain ⟨x,Hx⟩:∃ x,Hid (C.getD k0 en0=x):=⟨_,rfl⟩;obtain ⟨y,Hy⟩:∃ y,Hid (C.getD j en0=y):=⟨_,rfl⟩;rw [Hx.out] at A0;rw [Hy.out] at A1;clear S4 hj h0;have l0:∀ d os,(ld26 (.pointer (some (ad.add (k0 * 4))))).run Tryz.prog (Sort.grow (redrawn w4 d) os) = .ok (.agg (DC x)) (Sort.grow (redrawn w4 d) os):=fun d os=>run_ld26 (A0.out.on (below_regrown w4 d os));have l1:∀ d os,(ld26 (.pointer (some (ad.add (j * 4))))).run Tryz.prog (Sort.grow (redrawn w4 d) os) = .ok (.agg (DC y)) (Sort.grow (redrawn w4 d) os):=fun d os=>run_ld26 (A1.out.on (below_regrown w4 d os));obtain ⟨q,hq⟩:∃ q,sameDot y x=q:=⟨_,rfl⟩
    cases q with
    | false =>
     have HQ:=hide hq;go_wp2_with fail;refine wp_region_quiet_below (by kernel_rfl) (by kernel_rfl) ?_
     repeat (with_reducible (refine wpQuiet_step ?_);intro K hK;go_simp;(try rw [if_neg (by unfold undef;simp)]);first | (with_reducible (refine hK _ ?_);clear hK K) | (apply Exists.intro;refine ⟨fun _=>?_,hK _ ?_⟩;(fail);clear hK K))
     with_reducible (refine wpQuiet_nil ?_)
     intro w5 hw';obtain ⟨⟨dq,osq⟩,hw''⟩:=hw'
     have b5:Below w4.heap.size w4 w5:=by rw [hw''];exact below_regrown w4 dq osq
     clear hw'' dq osq
     have H5:Hid (AdjN C (k0+1)/\Below w2.heap.size w2 w5):=⟨fun i hi=>by
      by_cases e:i=j
      ·subst e;rw [<- Hj.out,Hx.out,Hy.out,same_symm];exact HQ.out
      ·exact H.out.1 i (by have:=Hj.out;omega),H.out.2.trans (b5.mono H.out.2.size)⟩
     clear b5 l0 l1;go_wp2_with fail;go_roundw
     case rel=>exact ⟨k0+1,by omega,by go_num,H5⟩
     case measure=>simp [intOf];omega
    | true =>
     have HF:Hid (Settled d.toList [] 10):=(settled_clash HCC.out j (by rw [HLC.out];have:=Hj.out;omega) (by rw [<- Hj.out,Hx.out,Hy.out];exact hq)).perm HPM.out;go_wp2_with fail;refine wp_region_quiet_below (by kernel_rfl) (by kernel_rfl) ?_
     repeat (with_reducible (refine wpQuiet_step ?_);intro K hK;go_simp;(try rw [if_neg (by unfold undef;simp)]);first | (with_reducible (refine hK _ ?_);clear hK K) | (apply Exists.intro;refine ⟨fun _=>?_,hK _ ?_⟩;(fail);clear hK K))
     with_reducible (refine wpQuiet_nil ?_)
     intro w5 hw';obtain ⟨⟨dq,osq⟩,hw''⟩:=hw'
     have b5:Below w4.heap.size w4 w5:=by rw [hw''];exact below_regrown w4 dq osq
     clear hw'' dq osq;have HB5:Hid (Below ad.block w w5):=HB2.out.trans ((H.out.2.trans (b5.mono H.out.2.size)).mono HLT.out);clear b5 l0 l1;go_wp2_with fail;go_ret2;exact ⟨none,0,0,[],10,rfl,ESrc.none _,HB5.out,fun ad h=>(by cases h),HF.out⟩
  ·obtain rfl:k0=k:=by omega
   have HF:Hid (Settled d.toList C 0):=(settled_done HCC.out HS.out (by rw [HLC.out];exact H.out.1)).perm HPM.out;have HE:=hide (HM4.out.esrc k0 cap HK.out C HCT.out HSC.out (by omega));have HB5:Hid (Below ad.block w w4):=HB2.out.trans (H.out.2.mono HLT.out);go_wp2_with fail;go_ret2;exact ⟨some ad,k0,cap,C,0,rfl,HE.out,HB5.out,fun ad' h=>by obtain rfl:=Option.some.inj h;exact Nat.le_refl _,HF.out⟩
end
section
open Go.RowKit Go.Lib
attribute [local go_sem ↓] ld28_eq st28_eq
attribute [local go_sem] zero_EC cells_EV EC_size
def firstE:List En -> Int
 | []=>0
 | e :: r=>if ceE e=0 then firstE r else ceE e
def okTo (L:List En) (k:Nat):Prop:=∀ i,i < k -> ceE (L.getD i en0)=0
def Sorted (L R:List En) (er:Int):Prop:=(firstE L≠0/\R=[]/\er=firstE L)∨(firstE L=0/\Settled L R er)
def GivesQ (w w':World) (e:Ending) (L:List En):Prop:=∃ ao n c R er,e = .returned (.tuple #[.slice ao n c,.int .i64 er])/\ESrc w' ao n c R/\Below w.heap.size w w'/\(∀ ad,ao=some ad -> w.heap.size <= ad.block)/\Sorted L R er
theorem ESrc.cells {w:World} {ad:Addr} {n cap:Nat} {L:List En} (hS:ESrc w (some ad) n cap L) (j:Nat) (u:Value) (hj:(ecs L)[j]? = some u):w.cell? (ad.add j)=some u:=by
 have hjl:j < L.length * 4:=by have:=(List.getElem?_eq_some_iff.1 hj).1;rwa [ecs_length] at this
 have e4:=ecs_at L (j / 4) (j % 4) (by omega) (by omega);rw [show j / 4 * 4+j % 4=j by omega,hj] at e4;have A:=hS.2.2.1 ad rfl (j / 4) (by rw [<- hS.1];omega)
 have:j % 4=0∨j % 4=1∨j % 4=2∨j % 4=3:=by omega
 rcases this with h | h | h | h
 ·rw [h] at e4;rw [show j=j / 4 * 4 by omega,A.c0];exact e4.symm
 ·rw [h] at e4;have:=A.c1;rw [add_add] at this;rw [show j=j / 4 * 4+1 by omega,this];exact e4.symm
 ·rw [h] at e4;have:=A.c2;rw [add_add] at this;rw [show j=j / 4 * 4+2 by omega,this];exact e4.symm
 ·rw [h] at e4;have:=A.c3;rw [add_add] at this;rw [show j=j / 4 * 4+3 by omega,this];exact e4.symm
theorem ecs_onecell (L:List En):∀ u∈ecs L,u.oneCell'=true:=by
 intro u hu;obtain ⟨l,hl,hv⟩:=List.mem_flatten.1 hu;obtain ⟨e,_,rfl⟩:=List.mem_map.1 hl;exact EC_one e u hv
theorem clone_any (ad:Addr) (n cap:Nat) (L:List En) (w:World) (hS:ESrc w (some ad) n cap L) :
  Calls Tryz.prog 49 #[.slice (some ad) n cap] w fun e w'=>∃ ao c,e = .returned (.slice ao n c)/\OwnE w.heap.size w.heap.size w w' ao c L:=by
 obtain ⟨i0,hi,hz0,hz1,hz2⟩:=info_parts info28;have q22:∀ w,(binOp .eql 22 (.slice (some ad) n cap) (.slice none 0 0)).run Tryz.prog w = .ok (.bool false) w:=fun w=>Lib.run_eql_slice_nil w _ _ (some ad) n cap 0 0 Tryz.underlying22;have HS:=hide hS;clear hS;go_enter Tryz.func49,Tryz.ntmps49;go_wp2_with (at_builtin;refine wpList_append_own _ rfl _ _ 22 rfl w.heap.size 66 i0 (.agg #[.int .i64 0,.int .i64 0,.string ⟨#[]⟩,.int .i64 0]) 4 40 Tryz.underlying22 hi hz0 hz1 hz2 rfl (by decide) _ _ _ rfl (World.ownsRow_made w #[] 0 (Nat.le_refl _) (Nat.zero_le _) (by simp)) ad n cap (ecs L) rfl ?qc1 ?qc2 ?qc3 ?qc4 ?qc5 ?qc6 ?_)
 case qc1=>rw [ecs_length,HS.out.1]
 case qc2 =>
  intro j u hj;have:=HS.out.cells j u hj;rw [(below_new w _).cell (World.block_lt_of_cell? _ _ this)];exact this
 case qc3=>exact ecs_onecell L
 case qc4=>rw [Nat.zero_add];unfold maxLen;have:=HS.out.2.2.2.2;omega
 case qc5=>rw [Nat.zero_add];have:=HS.out.2.2.2.2;omega
 case qc6=>simp
 intro v' w1 hown hgrow hnil
 have hown':w1.ownsRow w.heap.size 66 4 v' n (ecs L):=by simpa using hown
 have hb:Below w.heap.size w w1:=((Below.refl _ w).alloc (Nat.le_refl _) _).grown hgrow (by simp) (by intro k hk;simp [Value.ownBlock] at hk;omega)
 have HF:Hid (∃ ao c,v' = .slice ao n c/\OwnE w.heap.size w.heap.size w w1 ao c L):=by
  rcases hown'.2 with ⟨h0,_⟩ | ⟨g,c,cur,rfl,r⟩
  ·exact absurd h0 hnil
  ·exact ⟨some ⟨g,0,none⟩,c,rfl,by rw [HS.out.1];exact hown',hb,hb.size,Nat.le_refl _⟩
 clear hown hown' hgrow hnil hb;go_wp2_with fail;go_ret;obtain ⟨ao,c,rfl,h⟩:=HF.out;exact ⟨ao,c,rfl,h⟩
theorem clone_nil (w:World):Calls Tryz.prog 49 #[.slice none 0 0] w fun e w'=>e = .returned (.slice none 0 0)/\w'=w:=by
 have q22:∀ w,(binOp .eql 22 (.slice none 0 0) (.slice none 0 0)).run Tryz.prog w = .ok (.bool true) w:=fun w=>Lib.run_eql_slice_nil w _ _ none 0 0 0 0 Tryz.underlying22;go_enter Tryz.func49,Tryz.ntmps49;go_wp2_with fail;go_ret;exact ⟨rfl,rfl⟩
theorem OwnE.mr {B0 B:Nat} {w w':World} {ad:Addr} {cap:Nat} {acc:List En} (O:OwnE B0 B w w' (some ad) cap acc):MR w' ad acc.toArray/\acc.length <= cap/\cap <= 9223372036854775807/\B <= ad.block:=by
 rcases O.own.2 with ⟨h0,_⟩ | ⟨g,c,cur,hv,hbg,hgg,hnc,hcm,hcsz,htake⟩
 ·cases h0
 ·simp only [Value.slice.injEq,Option.some.injEq,true_and] at hv;obtain ⟨rfl,rfl⟩:=hv;refine ⟨⟨fun j hj=>?_,(Array.getElem?_eq_some_iff.1 hgg).1,rfl⟩,hnc,by unfold maxLen at hcm;omega,hbg⟩;rw [Sort.size_flatK] at hj
  have hj':j < acc.length * 4:=by simpa using hj
  refine ⟨?_,by simp [World.frozen?,hgg]⟩;rw [Nat.zero_add,O.own.cellAt j (by omega),Sort.get_flatK _ _ _ _ hj];have e4:=ecs_at acc (j / 4) (j % 4) (by omega) (by omega);rw [show j / 4 * 4+j % 4=j by omega] at e4;rw [e4]
  have e5:acc.toArray[j / 4]! = acc.getD (j / 4) en0:=by
   rw [getElem!_pos acc.toArray (j / 4) (by simp;omega)];simp [List.getD,show j / 4 < acc.length by omega]
  rw [e5]
  have:j % 4=0∨j % 4=1∨j % 4=2∨j % 4=3:=by omega
  rcases this with h | h | h | h <;> rw [h] <;> rfl
end
section
open Go.RowKit Go.Lib
attribute [local go_sem ↓] ld28_eq st28_eq
attribute [local go_sem] zero_EC cells_EV EC_size
end
end Go.Proofs.YtaphmhbmhcahaaaGreat.K
namespace Go.Proofs
open Go.Shelf
def Tryz.growEn_ren:Go.Shelf.Ren:=⟨fun | 4=>149 | n=>n,fun | 22=>22 | 25=>66 | 3=>3 | 4=>4 | 9=>9 | 20=>20 | 0=>0 | n=>n,fun | n=>n⟩
theorem Tryz.growEn:Go.Proofs.Lays8.n4 Tryz.prog Tryz.growEn_ren:={
 mixed:=by kernel_rfl
 f4:=⟨Tryz.f149.name,by decide,Tryz.func149.trans (congrArg some (by kernel_rfl))⟩
 t0:=Tryz.underlying0
 a0:=Tryz.isAgg0
 z0:=Tryz.sizeOf0
 v0:=Tryz.zeroValue0
 t3:=Tryz.underlying3
 a3:=Tryz.isAgg3
 z3:=Tryz.sizeOf3
 v3:=Tryz.zeroValue3
 t4:=Tryz.underlying4
 a4:=Tryz.isAgg4
 z4:=Tryz.sizeOf4
 v4:=Tryz.zeroValue4
 t9:=Tryz.underlying9
 a9:=Tryz.isAgg9
 z9:=Tryz.sizeOf9
 v9:=Tryz.zeroValue9
 t20:=Tryz.underlying20
 a20:=Tryz.isAgg20
 z20:=Tryz.sizeOf20
 v20:=Tryz.zeroValue20
 t22:=Tryz.underlying22
 a22:=Tryz.isAgg22
 z22:=Tryz.sizeOf22
 v22:=Tryz.zeroValue22 }
end Go.Proofs
namespace Go.Proofs.YtaphmhbmhcahaaaGreat.K
section
open Go.RowKit Go.Lib

theorem zc_size (n:Nat):(Builtin.zeroCells (EC en0) n).size=n * 4:=by simp [Builtin.zeroCells,EC_size]
theorem below_drew1 (w:World):Below w.heap.size w w.drew:=⟨rfl,rfl,rfl,Nat.le_refl _,fun _ _=>rfl⟩
theorem grow_nil (n:Nat) (w:World) (hn:n <= 3518437208883):Calls Tryz.prog 149 #[.slice none 0 0,.int .i64 n] w fun e w'=>∃ ao c,e = .returned (.slice ao 0 c)/\OwnE w.heap.size w.heap.size w w' ao c []:=by
 by_cases h0:n=0
 ·subst h0;refine Calls.mono (Any8.slices_Grow_room Tryz.growEn none 0 0 0 w (Nat.le_refl _) (by omega) (by omega) (Nat.le_refl _)) ?_;rintro e w' ⟨rfl,rfl⟩;exact ⟨none,0,rfl,OwnE.nil (Below.refl _ _) (Nat.le_refl _) (Nat.le_refl _)⟩
 ·obtain ⟨i0,hi,hz0,hz1,hz2⟩:=info_parts info28;have h:=Any8.slices_Grow_grow Tryz.growEn i0 _ hi hz0 (by rw [hz1];omega) none 0 0 n [] w (Nat.le_refl _) (by omega) (by rw [hz2];omega) (by omega) (by simp) (fun _=>rfl) (fun a ha=>by cases ha);rw [show Tryz.growEn_ren.t 25=66 from rfl] at h;refine Calls.mono h ?_;rintro e w' ⟨rfl,rfl⟩;have hge:=grownCap_ge w (0+n) 0 66;have hle:=grownCap_le_maxLen w (0+n) 0 66 (by unfold maxLen;omega);refine ⟨some ⟨w.heap.size,0,none⟩,grownCap w (0+n) 0 66,rfl,⟨rfl,Or.inr ⟨w.heap.size,grownCap w (0+n) 0 66,_,rfl,Nat.le_refl _,heap_alloc_new w.drew _,Nat.zero_le _,hle,?_,by simp [ecs]⟩⟩,(below_drew1 w).trans ((below_new w.drew _).mono (Nat.le_refl _)),by simp,Nat.le_refl _⟩
  have hc:(Value.agg #[.int .i64 0,.int .i64 0,.string ⟨#[]⟩,.int .i64 0]).cells=EC en0:=by simp [Value.cells];rfl
  rw [hc];simp only [Array.size_append,zc_size];rw [Nat.zero_add] at hge ⊢;simp;omega
theorem OwnE.appendAll {B0 B:Nat} {w w':World} {ao:Option Addr} {cap:Nat} {acc:List En} (O:OwnE B0 B w w' ao cap acc) (bo:Option Addr) (m c:Nat) (R:List En) (hR:ESrc w' bo m c R) (hlen:acc.length+m <= 3518437208883)
  {ops:Array Oper} {rest:List Oper} {o:Oper} {a:Act} {Q:Exit -> Act -> World -> Prop} (hgd:o.guard=none) (s x:Operand) (ho:o.op = .call { callee:=.builtin .append,args:=#[s,x],argTypes:=#[22,22] })
  (n:Nat) (hn:acc.length=n) (hs:a.eval s = .slice ao n cap) (hx:a.eval x = .slice bo m c)
  (hK:∀ (ap:Option Addr) (cap2:Nat) (w2:World),OwnE B0 B w w2 ap cap2 (acc++R) -> wpList Tryz.prog ops Q rest (a.put o.dst (.slice ap (n+m) cap2)) w2) :
  wpList Tryz.prog ops Q (o :: rest) a w':=by
 subst hn;obtain ⟨i0,hi,hz0,hz1,hz2⟩:=info_parts info28;have hB:=O.hB;have hB0:=O.hB0
 cases bo with
 | none =>
  obtain ⟨rfl,rfl⟩:=hR.2.1 rfl;obtain rfl:R=[]:=List.eq_nil_of_length_eq_zero hR.1;refine wpList_append_own_none hgd s x 22 ho B 66 i0 4 Tryz.underlying22 hi _ acc.length (ecs acc) hs O.own hx ?_;have:=hK ao cap w' (by rw [List.append_nil];exact O);exact this
 | some ad =>
  refine wpList_append_own _ hgd s x 22 ho B 66 i0 (.agg #[.int .i64 0,.int .i64 0,.string ⟨#[]⟩,.int .i64 0]) 4 40 Tryz.underlying22 hi hz0 hz1 hz2 rfl (by decide) _ acc.length (ecs acc) hs O.own ad m c (ecs R) hx (by rw [ecs_length,hR.1]) (fun j u hj=>hR.cells j u hj) (ecs_onecell R) (by unfold maxLen;omega) (by omega) hB ?_;intro v' w2 hown hgrow _;have hrow:∀ k,(Value.slice ao acc.length cap).ownBlock=some k -> B <= k:=fun k hk=>(O.own.lt k hk).1;have hsz:=hgrow.size;have hbel:Below B0 w w2:=O.below.grown hgrow (by omega) (fun k hk=>by have:=hrow k hk;omega);have hm:m=R.length:=hR.1.symm
  have hown2:w2.ownsRow B 66 4 v' (acc++R).length (ecs (acc++R)):=by rw [List.length_append,ecs_append,<- hm];exact hown
  rcases hown.2 with ⟨h0,h00⟩ | ⟨g,cap2,cur,hv,r⟩
  ·subst h0;have e0:acc.length+m=0:=h00;have:=hK none 0 w2 ⟨by rw [List.length_append,<- hm,e0] at hown2;rw [List.length_append,<- hm,e0];exact hown2,hbel,by omega,hB0⟩;rwa [e0] at this
  ·subst hv;exact hK (some ⟨g,0,none⟩) cap2 w2 ⟨by rw [List.length_append,<- hm] at hown2 ⊢;exact hown2,hbel,by omega,hB0⟩
theorem concat_any (gb:Nat) (ao bo:Option Addr) (n cap m cap':Nat) (L R:List En) (w:World) (hS:ESrc w ao n cap L) (hR:ESrc w bo m cap' R) (c0:w.cell? ⟨gb,0,none⟩=some (.slice ao n cap)) (c1:w.cell? ⟨gb,1,none⟩=some (.slice bo m cap')) (hlen:n+m <= 3518437208883) :
  Calls Tryz.prog 113 #[.slice (some ⟨gb,0,none⟩) 2 2] w fun e w'=>∃ ap c,e = .returned (.slice ap (n+m) c)/\OwnE w.heap.size w.heap.size w w' ap c (L++R):=by
 have HS:=hide hS;have HR:=hide hR;have HL:Hid (L.length=n):=hS.1;have HLR:Hid (R.length=m):=hR.1;have HC0:=hide c0;have HC1:=hide c1;clear hS hR;go_enter Tryz.func113,Tryz.ntmps113;go_wp2_with fail;go_loopw [3,5,11] (fun s _ i wr=>∃ k z:Nat,k <= 2/\s = .int .i64 z/\i = .int .i64 k/\z=(if k=0 then 0 else if k=1 then n else n+m)/\w=wr) (fun _ _ i _=>2 - (intOf i).toNat)
 case atStart=>exact ⟨0,0,Nat.zero_le _,rfl,rfl,rfl,rfl⟩
 case round =>
  obtain ⟨k,z,hk,rfl,rfl,hz,rfl⟩:=hrel;by_cases h2:k=2
  ·subst h2;simp at hz;subst hz;clear c0 c1;go_wp2_with fail;refine (grow_nil (n+m) _ hlen).mono ?_;rintro e w3 ⟨a3,c3,rfl,O3⟩;have HO3:=hide O3;clear O3;go_wp2_with fail;go_loopw [6,8,27] (fun v _ i wr=>∃ (k:Nat) (ap:Option Addr) (c:Nat) (acc:List En),k <= 2/\v = .slice ap acc.length c/\i = .int .i64 k/\Hid (acc=(if k=0 then [] else if k=1 then L else L++R)/\OwnE w.heap.size w.heap.size w wr ap c acc)) (fun _ _ i _=>2 - (intOf i).toNat)
   case atStart=>exact ⟨0,a3,c3,[],Nat.zero_le _,rfl,rfl,rfl,HO3.out⟩
   case round =>
    clear HO3;obtain ⟨k,ap,c,acc,hk,rfl,rfl,H⟩:=hrel
    rename World=>w4
    have d0:w4.cell? ⟨gb,0,none⟩=some (.slice ao n cap):=by rw [H.out.2.below.cell (World.block_lt_of_cell? _ _ HC0.out)];exact HC0.out
    have d1:w4.cell? ⟨gb,1,none⟩=some (.slice bo m cap'):=by rw [H.out.2.below.cell (World.block_lt_of_cell? _ _ HC1.out)];exact HC1.out
    by_cases h2:k=2
    ·subst h2
     have HF:Hid (∃ c',(Value.slice ap acc.length c:Value) = .slice ap (n+m) c'/\OwnE w.heap.size w.heap.size w w4 ap c' (L++R)):=by
      have e:acc=L++R:=H.out.1;rw [e,List.length_append,HL.out,HLR.out];exact ⟨c,rfl,by rw [<- e];exact H.out.2⟩
     clear d0 d1;go_wp2_with fail;go_ret;obtain ⟨c',e1,e2⟩:=HF.out;exact ⟨ap,c',by rw [e1];rfl,e2⟩
    ·by_cases h1:k=1
     ·subst h1;have e:acc=L:=H.out.1
      have hal:acc.length=n:=by rw [e];exact HL.out
      have HR4:=hide (HR.out.below H.out.2.below);go_wp2_with (at_builtin;refine H.out.2.appendAll bo m cap' R HR4.out (by omega) rfl (.tmp 31) (.tmp 32) rfl acc.length rfl rfl rfl ?_;intro a5 c5 w5 O5);go_roundw
      case rel=>exact ⟨1+1,a5,c5,acc++R,by omega,by simp [List.length_append,HLR.out,HL.out,e],by go_num,by rw [e];rfl,O5⟩
      case measure=>simp [intOf]
     ·obtain rfl:k=0:=by omega
      have e:acc=[]:=H.out.1
      have hal:acc.length=0:=by rw [e];rfl
      have HS4:=hide (HS.out.below H.out.2.below);go_wp2_with (at_builtin;refine H.out.2.appendAll ao n cap L HS4.out (by omega) rfl (.tmp 31) (.tmp 32) rfl acc.length rfl rfl rfl ?_;intro a5 c5 w5 O5);go_roundw
      case rel=>exact ⟨0+1,a5,c5,acc++L,by omega,by simp [HL.out,e],by go_num,by rw [e];rfl,O5⟩
      case measure=>simp [intOf]
  ·by_cases h1:k=1
   ·subst h1;simp at hz;subst hz;go_wp2_with fail;go_roundw
    case rel=>exact ⟨1+1,z+m,by omega,by go_num,by go_num,rfl,trivial⟩
    case measure=>simp [intOf]
   ·obtain rfl:k=0:=by omega
    simp at hz;subst hz;go_wp2_with fail;go_roundw
    case rel=>exact ⟨0+1,n,by omega,by go_num,by go_num,rfl,trivial⟩
    case measure=>simp [intOf]
end
section
open Go.RowKit

def code (e:En):Int:=e.rep * 1000000000+e.num
theorem code_lt {x y:En} (hx:ceE x=0) (hy:ceE y=0) (h:ahead x y=true):code x < code y:=by
 have bx:∀ z:En,ceE z=0 -> (0 <= z.rep/\z.rep < 16)/\1 <= z.num/\z.num <= 1000000000:=by
  intro z hz;unfold ceE at hz;by_cases h1:isR z.rep=false
  ·rw [if_pos h1] at hz;omega
  ·rw [if_neg h1] at hz;by_cases h2:z.num < 1∨1000000000 < z.num
   ·rw [if_pos h2] at hz;omega
   ·have h1':isR z.rep=true:=by simpa using h1
    unfold isR at h1';simp at h1';exact ⟨h1',by omega,by omega⟩
 have b1:=bx x hx;have b2:=bx y hy;simp [ahead] at h;unfold code;omega
theorem code_bd {z:En} (hz:ceE z=0):1 <= code z/\code z <= 16000000000:=by
 unfold ceE at hz;by_cases h1:isR z.rep=false
 ·rw [if_pos h1] at hz;omega
 ·rw [if_neg h1] at hz;by_cases h2:z.num < 1∨1000000000 < z.num
  ·rw [if_pos h2] at hz;omega
  ·have h1':isR z.rep=true:=by simpa using h1
   unfold isR at h1';simp at h1';unfold code;omega
theorem okN_at (L:List En) (n:Nat) (h:okN L n=true) (k:Nat) (hk:k < n):okAt L k=true:=by
 unfold okN at h;exact List.all_eq_true.1 h k (List.mem_range.2 hk)
theorem chk_zero {L:List En} (h:chk L=0):okN L L.length=true:=by
 unfold chk at h;by_cases e:okN L L.length=true
 ·exact e
 ·rw [if_neg e] at h;omega
theorem chk_len {L:List En} (h:chk L=0):L.length <= 16000000000:=by
 have ho:=chk_zero h
 have key:∀ k,k < L.length -> ((k:Nat):Int)+1 <= code (L.getD k en0):=by
  intro k
  induction k with
  | zero =>
   intro hk;have:=okN_at L _ ho 0 hk;simp [okAt] at this;have:=code_bd this;simpa using this.1
  | succ k ih =>
   intro hk;have h1:=okN_at L _ ho (k+1) hk;have h0:=okN_at L _ ho k (by omega);simp only [okAt,Bool.and_eq_true,beq_iff_eq,Bool.or_eq_true,decide_eq_true_eq,Nat.add_sub_cancel] at h0 h1
   have ha:ahead (L.getD k en0) (L.getD (k+1) en0)=true:=by
    rcases h1.2 with e | e
    ·omega
    ·exact e
   have:=code_lt h0.1 h1.1 ha;have:=ih (by omega);omega
 rcases Nat.eq_zero_or_pos L.length with h0 | h0
 ·omega
 ·have h1:=key (L.length - 1) (by omega);have h2:=okN_at L _ ho (L.length - 1) (by omega);simp only [okAt,Bool.and_eq_true,beq_iff_eq] at h2;have:=(code_bd h2.1).2;omega
end
end Go.Proofs.YtaphmhbmhcahaaaGreat.K
