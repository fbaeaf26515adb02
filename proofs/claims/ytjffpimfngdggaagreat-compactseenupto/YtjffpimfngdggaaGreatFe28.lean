/- LRis LSor LSo2 LShg LCct LUp LUn TFg SXk Jr -/
import Derived.Test.YtjffpimfngdggaaGreatTk
import Derived.Test.YtjffpimfngdggaaGreatFe27
import Derived.Shelf.SlSortCmp.NoneTotal
import Derived.Lib.SliceRun
import Derived.Shelf.Spec.SlicesGrow
import Derived.Test.YtjffpimfngdggaaGreatProg
import Derived.Laws.AppendOwnNone
import Derived.Deep.LoopGhost
import Derived.Test.YtjffpimfngdggaaGreatFe15
import Derived.Test.YtjffpimfngdggaaGreatFe26
import Derived.Test.YtjffpimfngdggaaGreatFe22
import Derived.Test.YtjffpimfngdggaaGreatFe13
import Derived.Test.YtjffpimfngdggaaGreatFe00
set_option maxRecDepth 100000
set_option maxHeartbeats 4000000
namespace Go.Proofs.YtjffpimfngdggaaGreat.K
section
open Go.RowKit Go.Lib
attribute [local go_sem ↓] zx zw xE xP
attribute [local go_sem] zI zt zF
def tE (B:Nat) (w w':World) (e:Ending) (L:List En):Prop:=∃ ao n c R er,e = .returned (.tuple #[.slice ao n c,.int .i64 er])/\aD w' ao n c R/\Below B w w'/\(∀ ad,ao=some ad -> B <= ad.block)/\dB L R er
theorem zbG:dB [] [] 0:=Or.inr ⟨(fun ⟨_,h,_⟩=>by cases h),rfl,List.Pairwise.nil,fun _=>Iff.rfl⟩
theorem rj (ao:Option Addr) (cap:Nat) (w:World):Calls Tryz.prog 234 #[.slice ao 0 cap,.func (.func 104) #[] #[]] w fun e w'=>e = .returned (.tuple #[])/\w'=w:=AnyF.slices_SortFunc_none Tryz.sortEn ao cap _ w
theorem rN (ao:Option Addr) (cap:Nat) (w:World):Calls Tryz.prog 235 #[.slice ao 0 cap] w fun e w'=>e = .returned (.slice ao 0 cap)/\w'=w:=by
 go_enter Tryz.func235,Tryz.ntmps235;go_wp2_with fail;go_ret;exact ⟨rfl,rfl⟩
theorem tP (ao:Option Addr) (cap:Nat) (w:World):Calls Tryz.prog 208 #[.slice ao 0 cap] w fun e w'=>e = .returned (.tuple #[.slice ao 0 cap,.int .i64 0])/\Below w.heap.size w w':=by
 have HB:Hid (Below w.heap.size w w):=Below.refl _ _;go_enter Tryz.func208,Tryz.ntmps208;go_wp2_with fail;refine (rj ao cap _).mono ?_;rintro e w1 ⟨rfl,rfl⟩;go_wp2_with fail;refine (rN ao cap _).mono ?_;rintro e w2 ⟨rfl,rfl⟩;go_wp2_with fail;go_loopw [4,11] (fun _ i wr=>i = .int .i64 0/\wr=w2) (fun _ _ _=>0)
 case atStart=>exact ⟨rfl,rfl⟩
 case round =>
  obtain ⟨rfl,rfl⟩:=hrel;go_wp2_with fail;go_ret2;exact ⟨rfl,HB.out⟩
theorem MR.esrc {W:World} {ad:Addr} {d:Array En} (M:MR W ad d) (k c:Nat) (hk:k <= d.size) (C:List En) (hC:d.toList.take k=C) (hs:∀ e∈C,e.sku.size <= maxLen) (hm:k <= 3518437208883):aD W (some ad) k c C:=by
 subst hC;refine ⟨by rw [List.length_take,Array.length_toList];omega,fun h=>(by cases h),fun ad' h t ht=>?_,hs,hm⟩;obtain rfl:=Option.some.inj h
 have e:(d.toList.take k).getD t en0=d[t]! := by
  rw [List.getD,List.getElem?_take,if_pos ht,Array.getElem?_toList,Array.getElem?_eq_getElem (by omega),getElem!_pos d t (by omega)];rfl
 rw [e];exact M.at t (by omega)
theorem zdo (ad:Addr) (cap n:Nat) (d:Array En) (w:World) (M:MR w ad d) (hn:d.size=n) (hb:n <= 3518437208883) (mE:n <= cap) (eV:cap <= 9223372036854775807) (gk:∀ e∈d.toList,e.sku.size <= maxLen) :
  Calls Tryz.prog 208 #[.slice (some ad) n cap] w fun e w'=>tE ad.block w w' e d.toList:=by
 have HM:=hide M;have HN:=hide hn;have uC:=hide gk;have HC:=hide mE;have t7:=hide eV;clear M hn gk mE eV;go_enter Tryz.func208,Tryz.ntmps208;go_wp2_with fail;refine (jI ad cap n d _ HM.out HN.out hb).mono ?_;rintro e w1 ⟨rfl,d1,hp,hs,M1,b1⟩;have HP:=hide hp;have HS:=hide hs;have Kt:=hide M1;have aN:=hide b1;clear hp hs M1 b1
 have Kr:Hid (d1.size=n):=by have:=HP.out.length_eq;rw [Array.length_toList,Array.length_toList,HN.out] at this;exact this
 go_wp2_with fail;refine (ks ad cap n d1 _ Kt.out Kr.out hb HC.out t7.out).mono ?_;rintro e w2 ⟨k,d2,rfl,M2,hk,mv,ht,b2⟩;obtain ⟨C,Fs⟩:∃ C,d2.toList.take k=C:=⟨_,rfl⟩;have JJ:=hide Fs;have Ei:Hid (C=compactUpTo d1 d1.size):=Fs.symm.trans ht;have AO:=hide M2;have cg:Hid (Below ad.block w w2):=aN.out.trans b2
 have HK:Hid (k <= d2.size):=by show _ <= _;rw [mv];exact hk
 have Cf:k <= n:=by have:=Kr.out;omega
 have Jv:Hid (C.length=k):=by show _=_;rw [<- Fs,List.length_take,Array.length_toList];have:=HK.out;omega
 have sV:Hid (∀ e∈C,e.sku.size <= maxLen):=fun e he=>by
  rw [Ei.out] at he;exact uC.out e (HP.out.mem_iff.1 ((zb8 d1 e).1 he))
 have Jq:Hid (∀ x,x∈d1.toList↔x∈d.toList):=fun x=>HP.out.mem_iff;clear Fs ht M2 b2 mv hk aN Kt;go_wp2_with fail;go_loopw [4,11] (fun _ i wr=>∃ k0:Nat,k0 <= k/\i = .int .i64 k0/\Hid (tN C k0/\Below w2.heap.size w2 wr)) (fun _ i _=>k - (intOf i).toNat)
 case atStart=>exact ⟨0,Nat.zero_le _,rfl,fun i hi=>by omega,Below.refl _ _⟩
 case round =>
  obtain ⟨k0,gK,rfl,H⟩:=hrel
  rename World=>w4
  have pl:Hid (ad.block <= w2.heap.size):=Nat.le_of_lt AO.out.lt;have lh:=hide (AO.out.on H.out.2);by_cases ak:k0 < k
  ·by_cases h0:k0=0
   ·subst h0;go_wp2_with fail;refine wp_region_quiet_below (by kernel_rfl) (by kernel_rfl) ?_
    repeat (with_reducible (refine wpQuiet_step ?_);intro K hK;go_simp;(try rw [if_neg (by unfold undef;simp)]);first | (with_reducible (refine hK _ ?_);clear hK K) | (apply Exists.intro;refine ⟨fun _=>?_,hK _ ?_⟩;(fail);clear hK K))
    with_reducible (refine wpQuiet_nil ?_)
    intro w5 hw';obtain ⟨⟨dq,osq⟩,hw''⟩:=hw'
    have b5:Below w4.heap.size w4 w5:=by rw [hw''];exact below_regrown w4 dq osq
    clear hw'' dq osq;have H5:Hid (tN C (0+1)/\Below w2.heap.size w2 w5):=⟨fun i hi=>by omega,H.out.2.trans (b5.mono H.out.2.size)⟩;clear b5;go_wp2_with fail;go_roundw
    case rel=>exact ⟨0+1,by omega,by go_num,H5⟩
    case measure=>simp [intOf];omega
   ·obtain ⟨j,hj⟩:∃ j,k0 - 1=j:=⟨_,rfl⟩
    have hz:IntKind.i64.wrap ((k0:Int) - 1)=(j:Int):=by rw [IntKind.wrap_i64];omega
    have od:j < k:=by omega
    have E5:decide ((0:Int) < (k0:Int))=true:=decide_eq_true (by omega)
    have Gd:0 < k0:=by omega
    have Hj:Hid (k0=j+1):=by show _=_;omega
    have S4:=lh.out.esrc k cap HK.out C JJ.out sV.out (by omega);have A0:=hide (S4.2.2.1 ad rfl k0 ak);have A1:=hide (S4.2.2.1 ad rfl j od);obtain ⟨x,Hx⟩:∃ x,Hid (C.getD k0 en0=x):=⟨_,rfl⟩;obtain ⟨y,Hy⟩:∃ y,Hid (C.getD j en0=y):=⟨_,rfl⟩;rw [Hx.out] at A0;rw [Hy.out] at A1;clear S4 hj h0;have l0:∀ d os,(lj (.pointer (some (ad.add (k0 * 4))))).run Tryz.prog (Sort.grow (redrawn w4 d) os) = .ok (.agg (DC x)) (Sort.grow (redrawn w4 d) os):=fun d os=>xG (A0.out.on (below_regrown w4 d os));have l1:∀ d os,(lj (.pointer (some (ad.add (j * 4))))).run Tryz.prog (Sort.grow (redrawn w4 d) os) = .ok (.agg (DC y)) (Sort.grow (redrawn w4 d) os):=fun d os=>xG (A1.out.on (below_regrown w4 d os));obtain ⟨q,hq⟩:∃ q,al y x=q:=⟨_,rfl⟩
    cases q with
    | false =>
     have HQ:=hide hq;go_wp2_with fail;refine wp_region_quiet_below (by kernel_rfl) (by kernel_rfl) ?_
     repeat (with_reducible (refine wpQuiet_step ?_);intro K hK;go_simp;(try rw [if_neg (by unfold undef;simp)]);first | (with_reducible (refine hK _ ?_);clear hK K) | (apply Exists.intro;refine ⟨fun _=>?_,hK _ ?_⟩;(fail);clear hK K))
     with_reducible (refine wpQuiet_nil ?_)
     intro w5 hw';obtain ⟨⟨dq,osq⟩,hw''⟩:=hw'
     have b5:Below w4.heap.size w4 w5:=by rw [hw''];exact below_regrown w4 dq osq
     clear hw'' dq osq
     have H5:Hid (tN C (k0+1)/\Below w2.heap.size w2 w5):=⟨fun i hi=>by
      by_cases e:i=j
      ·subst e;rw [<- Hj.out,Hx.out,Hy.out,zaR];exact HQ.out
      ·exact H.out.1 i (by have:=Hj.out;omega),H.out.2.trans (b5.mono H.out.2.size)⟩
     clear b5 l0 l1;go_wp2_with fail;go_roundw
     case rel=>exact ⟨k0+1,by omega,by go_num,H5⟩
     case measure=>simp [intOf];omega
    | true =>
     have HF:Hid (dB d.toList [] 10):=(bC Ei.out j (by rw [Jv.out];have:=Hj.out;omega) (by rw [<- Hj.out,Hx.out,Hy.out];exact hq)).perm Jq.out;go_wp2_with fail;refine wp_region_quiet_below (by kernel_rfl) (by kernel_rfl) ?_
     repeat (with_reducible (refine wpQuiet_step ?_);intro K hK;go_simp;(try rw [if_neg (by unfold undef;simp)]);first | (with_reducible (refine hK _ ?_);clear hK K) | (apply Exists.intro;refine ⟨fun _=>?_,hK _ ?_⟩;(fail);clear hK K))
     with_reducible (refine wpQuiet_nil ?_)
     intro w5 hw';obtain ⟨⟨dq,osq⟩,hw''⟩:=hw'
     have b5:Below w4.heap.size w4 w5:=by rw [hw''];exact below_regrown w4 dq osq
     clear hw'' dq osq;have dO:Hid (Below ad.block w w5):=cg.out.trans ((H.out.2.trans (b5.mono H.out.2.size)).mono pl.out);clear b5 l0 l1;go_wp2_with fail;go_ret2;exact ⟨none,0,0,[],10,rfl,aD.none _,dO.out,fun ad h=>(by cases h),HF.out⟩
  ·obtain rfl:k0=k:=by omega
   have HF:Hid (dB d.toList C 0):=(zaQ Ei.out HS.out (by rw [Jv.out];exact H.out.1)).perm Jq.out;have HE:=hide (lh.out.esrc k0 cap HK.out C JJ.out sV.out (by omega));have dO:Hid (Below ad.block w w4):=cg.out.trans (H.out.2.mono pl.out);go_wp2_with fail;go_ret2;exact ⟨some ad,k0,cap,C,0,rfl,HE.out,dO.out,fun ad' h=>by obtain rfl:=Option.some.inj h;exact Nat.le_refl _,HF.out⟩
end
section
open Go.RowKit Go.Lib
attribute [local go_sem ↓] zx zw
attribute [local go_sem] zI zt zF
def lZ:List En -> Int
 | []=>0
 | e :: r=>if ceE e=0 then lZ r else ceE e
def Nr (L:List En) (k:Nat):Prop:=∀ i,i < k -> ceE (L.getD i en0)=0
def BA (L R:List En) (er:Int):Prop:=(lZ L≠0/\R=[]/\er=lZ L)∨(lZ L=0/\dB L R er)
def I3 (w w':World) (e:Ending) (L:List En):Prop:=∃ ao n c R er,e = .returned (.tuple #[.slice ao n c,.int .i64 er])/\aD w' ao n c R/\Below w.heap.size w w'/\(∀ ad,ao=some ad -> w.heap.size <= ad.block)/\BA L R er
theorem aD.cells {w:World} {ad:Addr} {n cap:Nat} {L:List En} (hS:aD w (some ad) n cap L) (j:Nat) (u:Value) (hj:(ecs L)[j]? = some u):w.cell? (ad.add j)=some u:=by
 have gt:j < L.length * 4:=by have:=(List.getElem?_eq_some_iff.1 hj).1;rwa [jt] at this
 have e4:=zcZ L (j / 4) (j % 4) (by omega) (by omega);rw [show j / 4 * 4+j % 4=j by omega,hj] at e4;have A:=hS.2.2.1 ad rfl (j / 4) (by rw [<- hS.1];omega)
 have:j % 4=0∨j % 4=1∨j % 4=2∨j % 4=3:=by omega
 rcases this with h | h | h | h
 ·rw [h] at e4;rw [show j=j / 4 * 4 by omega,A.c0];exact e4.symm
 ·rw [h] at e4;have:=A.c1;rw [qC] at this;rw [show j=j / 4 * 4+1 by omega,this];exact e4.symm
 ·rw [h] at e4;have:=A.c2;rw [qC] at this;rw [show j=j / 4 * 4+2 by omega,this];exact e4.symm
 ·rw [h] at e4;have:=A.c3;rw [qC] at this;rw [show j=j / 4 * 4+3 by omega,this];exact e4.symm
theorem yi (L:List En):∀ u∈ecs L,u.oneCell'=true:=by
 intro u hu;obtain ⟨l,hl,hv⟩:=List.mem_flatten.1 hu;obtain ⟨e,_,rfl⟩:=List.mem_map.1 hl;exact bk e u hv
theorem zff (ad:Addr) (n cap:Nat) (L:List En) (w:World) (hS:aD w (some ad) n cap L) :
  Calls Tryz.prog 98 #[.slice (some ad) n cap] w fun e w'=>∃ ao c,e = .returned (.slice ao n c)/\dU w.heap.size w.heap.size w w' ao c L:=by
 obtain ⟨i0,hi,dg,dn,ee⟩:=info_parts me;have q22:∀ w,(binOp .eql 22 (.slice (some ad) n cap) (.slice none 0 0)).run Tryz.prog w = .ok (.bool false) w:=fun w=>Lib.run_eql_slice_nil w _ _ (some ad) n cap 0 0 Tryz.underlying22;have HS:=hide hS;clear hS;go_enter Tryz.func98,Tryz.ntmps98;go_wp2_with (at_builtin;refine wpList_append_own _ rfl _ _ 22 rfl w.heap.size 50 i0 (.agg #[.int .i64 0,.int .i64 0,.string ⟨#[]⟩,.int .i64 0]) 4 40 Tryz.underlying22 hi dg dn ee rfl (by decide) _ _ _ rfl (World.ownsRow_made w #[] 0 (Nat.le_refl _) (Nat.zero_le _) (by simp)) ad n cap (ecs L) rfl ?qc1 ?qc2 ?qc3 ?qc4 ?qc5 ?qc6 ?_)
 case qc1=>rw [jt,HS.out.1]
 case qc2 =>
  intro j u hj;have:=HS.out.cells j u hj;rw [(ze w _).cell (World.block_lt_of_cell? _ _ this)];exact this
 case qc3=>exact yi L
 case qc4=>rw [Nat.zero_add];unfold maxLen;have:=HS.out.2.2.2.2;omega
 case qc5=>rw [Nat.zero_add];have:=HS.out.2.2.2.2;omega
 case qc6=>simp
 intro v' w1 aM az ei
 have pX:w1.ownsRow w.heap.size 50 4 v' n (ecs L):=by simpa using aM
 have hb:Below w.heap.size w w1:=((Below.refl _ w).alloc (Nat.le_refl _) _).grown az (by simp) (by intro k hk;simp [Value.ownBlock] at hk;omega)
 have HF:Hid (∃ ao c,v' = .slice ao n c/\dU w.heap.size w.heap.size w w1 ao c L):=by
  rcases pX.2 with ⟨h0,_⟩ | ⟨g,c,cur,rfl,r⟩
  ·exact absurd h0 ei
  ·exact ⟨some ⟨g,0,none⟩,c,rfl,by rw [HS.out.1];exact pX,hb,hb.size,Nat.le_refl _⟩
 clear aM pX az ei hb;go_wp2_with fail;go_ret;obtain ⟨ao,c,rfl,h⟩:=HF.out;exact ⟨ao,c,rfl,h⟩
theorem zfe (w:World):Calls Tryz.prog 98 #[.slice none 0 0] w fun e w'=>e = .returned (.slice none 0 0)/\w'=w:=by
 have q22:∀ w,(binOp .eql 22 (.slice none 0 0) (.slice none 0 0)).run Tryz.prog w = .ok (.bool true) w:=fun w=>Lib.run_eql_slice_nil w _ _ none 0 0 0 0 Tryz.underlying22;go_enter Tryz.func98,Tryz.ntmps98;go_wp2_with fail;go_ret;exact ⟨rfl,rfl⟩
theorem dU.mr {B0 B:Nat} {w w':World} {ad:Addr} {cap:Nat} {acc:List En} (O:dU B0 B w w' (some ad) cap acc):MR w' ad acc.toArray/\acc.length <= cap/\cap <= 9223372036854775807/\B <= ad.block:=by
 rcases O.own.2 with ⟨h0,_⟩ | ⟨g,c,cur,hv,dN,dy,hnc,eV,hcsz,htake⟩
 ·cases h0
 ·simp only [Value.slice.injEq,Option.some.injEq,true_and] at hv;obtain ⟨rfl,rfl⟩:=hv;refine ⟨⟨fun j hj=>?_,(Array.getElem?_eq_some_iff.1 dy).1,rfl⟩,hnc,by unfold maxLen at eV;omega,dN⟩;rw [Sort.size_flatK] at hj
  have KK:j < acc.length * 4:=by simpa using hj
  refine ⟨?_,by simp [World.frozen?,dy]⟩;rw [Nat.zero_add,O.own.cellAt j (by omega),Sort.get_flatK _ _ _ _ hj];have e4:=zcZ acc (j / 4) (j % 4) (by omega) (by omega);rw [show j / 4 * 4+j % 4=j by omega] at e4;rw [e4]
  have e5:acc.toArray[j / 4]! = acc.getD (j / 4) en0:=by
   rw [getElem!_pos acc.toArray (j / 4) (by simp;omega)];simp [List.getD,show j / 4 < acc.length by omega]
  rw [e5]
  have:j % 4=0∨j % 4=1∨j % 4=2∨j % 4=3:=by omega
  rcases this with h | h | h | h <;> rw [h] <;> rfl
end
section
open Go.RowKit Go.Lib
attribute [local go_sem ↓] zx zw
attribute [local go_sem] zI zt zF
end
end Go.Proofs.YtjffpimfngdggaaGreat.K
namespace Go.Proofs
open Go.Shelf
def Tryz.growEn_ren:Go.Shelf.Ren:=⟨fun | 4=>236 | n=>n,fun | 22=>22 | 25=>50 | 3=>3 | 4=>4 | 9=>9 | 20=>20 | 0=>0 | n=>n,fun | n=>n⟩
theorem Tryz.growEn:Go.Proofs.Lays8.n4 Tryz.prog Tryz.growEn_ren:={
 mixed:=by kernel_rfl
 f4:=⟨Tryz.f236.name,by decide,Tryz.func236.trans (congrArg some (by kernel_rfl))⟩
 t0:=Tryz.underlying0
 a0:=Tryz.isAgg0
 z0:=Tryz.sizeOf0
 v0:=Tryz.zeroValue0
 t3:=Tryz.underlying3
 a3:=Tryz.isAgg3
 z3:=Tryz.sizeOf3
 v3:=Tryz.zeroValue3
 t4:=Tryz.underlying4
 a4:=Tryz.isAgg4
 z4:=Tryz.sizeOf4
 v4:=Tryz.zeroValue4
 t9:=Tryz.underlying9
 a9:=Tryz.isAgg9
 z9:=Tryz.sizeOf9
 v9:=Tryz.zeroValue9
 t20:=Tryz.underlying20
 a20:=Tryz.isAgg20
 z20:=Tryz.sizeOf20
 v20:=Tryz.zeroValue20
 t22:=Tryz.underlying22
 a22:=Tryz.isAgg22
 z22:=Tryz.sizeOf22
 v22:=Tryz.zeroValue22 }
end Go.Proofs
namespace Go.Proofs.YtjffpimfngdggaaGreat.K
section
open Go.RowKit Go.Lib

theorem zhJ (n:Nat):(Builtin.zeroCells (EC en0) n).size=n * 4:=by simp [Builtin.zeroCells,zF]
theorem zg (w:World):Below w.heap.size w w.drew:=⟨rfl,rfl,rfl,Nat.le_refl _,fun _ _=>rfl⟩
theorem zgw (n:Nat) (w:World) (hn:n <= 3518437208883):Calls Tryz.prog 236 #[.slice none 0 0,.int .i64 n] w fun e w'=>∃ ao c,e = .returned (.slice ao 0 c)/\dU w.heap.size w.heap.size w w' ao c []:=by
 by_cases h0:n=0
 ·subst h0;refine Calls.mono (Any8.slices_Grow_room Tryz.growEn none 0 0 0 w (Nat.le_refl _) (by omega) (by omega) (Nat.le_refl _)) ?_;rintro e w' ⟨rfl,rfl⟩;exact ⟨none,0,rfl,dU.nil (Below.refl _ _) (Nat.le_refl _) (Nat.le_refl _)⟩
 ·obtain ⟨i0,hi,dg,dn,ee⟩:=info_parts me;have h:=Any8.slices_Grow_grow Tryz.growEn i0 _ hi dg (by rw [dn];omega) none 0 0 n [] w (Nat.le_refl _) (by omega) (by rw [ee];omega) (by omega) (by simp) (fun _=>rfl) (fun a ha=>by cases ha);rw [show Tryz.growEn_ren.t 25=50 from rfl] at h;refine Calls.mono h ?_;rintro e w' ⟨rfl,rfl⟩;have sl:=grownCap_ge w (0+n) 0 50;have ip:=grownCap_le_maxLen w (0+n) 0 50 (by unfold maxLen;omega);refine ⟨some ⟨w.heap.size,0,none⟩,grownCap w (0+n) 0 50,rfl,⟨rfl,Or.inr ⟨w.heap.size,grownCap w (0+n) 0 50,_,rfl,Nat.le_refl _,heap_alloc_new w.drew _,Nat.zero_le _,ip,?_,by simp [ecs]⟩⟩,(zg w).trans ((ze w.drew _).mono (Nat.le_refl _)),by simp,Nat.le_refl _⟩
  have hc:(Value.agg #[.int .i64 0,.int .i64 0,.string ⟨#[]⟩,.int .i64 0]).cells=EC en0:=by simp [Value.cells];rfl
  rw [hc];simp only [Array.size_append,zhJ];rw [Nat.zero_add] at sl ⊢;simp;omega
theorem dU.appendAll {B0 B:Nat} {w w':World} {ao:Option Addr} {cap:Nat} {acc:List En} (O:dU B0 B w w' ao cap acc) (bo:Option Addr) (m c:Nat) (R:List En) (hR:aD w' bo m c R) (cF:acc.length+m <= 3518437208883)
  {ops:Array Oper} {rest:List Oper} {o:Oper} {a:Act} {Q:Exit -> Act -> World -> Prop} (hgd:o.guard=none) (s x:Operand) (ho:o.op = .call { callee:=.builtin .append,args:=#[s,x],argTypes:=#[22,22] })
  (n:Nat) (hn:acc.length=n) (hs:a.eval s = .slice ao n cap) (hx:a.eval x = .slice bo m c)
  (hK:∀ (ap:Option Addr) (cap2:Nat) (w2:World),dU B0 B w w2 ap cap2 (acc++R) -> wpList Tryz.prog ops Q rest (a.put o.dst (.slice ap (n+m) cap2)) w2) :
  wpList Tryz.prog ops Q (o :: rest) a w':=by
 subst hn;obtain ⟨i0,hi,dg,dn,ee⟩:=info_parts me;have hB:=O.hB;have hB0:=O.hB0
 cases bo with
 | none =>
  obtain ⟨rfl,rfl⟩:=hR.2.1 rfl;obtain rfl:R=[]:=List.eq_nil_of_length_eq_zero hR.1;refine wpList_append_own_none hgd s x 22 ho B 50 i0 4 Tryz.underlying22 hi _ acc.length (ecs acc) hs O.own hx ?_;have:=hK ao cap w' (by rw [List.append_nil];exact O);exact this
 | some ad =>
  refine wpList_append_own _ hgd s x 22 ho B 50 i0 (.agg #[.int .i64 0,.int .i64 0,.string ⟨#[]⟩,.int .i64 0]) 4 40 Tryz.underlying22 hi dg dn ee rfl (by decide) _ acc.length (ecs acc) hs O.own ad m c (ecs R) hx (by rw [jt,hR.1]) (fun j u hj=>hR.cells j u hj) (yi R) (by unfold maxLen;omega) (by omega) hB ?_;intro v' w2 aM az _;have dx:∀ k,(Value.slice ao acc.length cap).ownBlock=some k -> B <= k:=fun k hk=>(O.own.lt k hk).1;have dP:=az.size;have Ds:Below B0 w w2:=O.below.grown az (by omega) (fun k hk=>by have:=dx k hk;omega);have hm:m=R.length:=hR.1.symm
  have om:w2.ownsRow B 50 4 v' (acc++R).length (ecs (acc++R)):=by rw [List.length_append,yV,<- hm];exact aM
  rcases aM.2 with ⟨h0,fh⟩ | ⟨g,cap2,cur,hv,r⟩
  ·subst h0;have e0:acc.length+m=0:=fh;have:=hK none 0 w2 ⟨by rw [List.length_append,<- hm,e0] at om;rw [List.length_append,<- hm,e0];exact om,Ds,by omega,hB0⟩;rwa [e0] at this
  ·subst hv;exact hK (some ⟨g,0,none⟩) cap2 w2 ⟨by rw [List.length_append,<- hm] at om ⊢;exact om,Ds,by omega,hB0⟩
theorem zdI (gb:Nat) (ao bo:Option Addr) (n cap m cap':Nat) (L R:List En) (w:World) (hS:aD w ao n cap L) (hR:aD w bo m cap' R) (c0:w.cell? ⟨gb,0,none⟩=some (.slice ao n cap)) (c1:w.cell? ⟨gb,1,none⟩=some (.slice bo m cap')) (cF:n+m <= 3518437208883) :
  Calls Tryz.prog 209 #[.slice (some ⟨gb,0,none⟩) 2 2] w fun e w'=>∃ ap c,e = .returned (.slice ap (n+m) c)/\dU w.heap.size w.heap.size w w' ap c (L++R):=by
 have HS:=hide hS;have HR:=hide hR;have HL:Hid (L.length=n):=hS.1;have IN:Hid (R.length=m):=hR.1;have Eq:=hide c0;have mW:=hide c1;clear hS hR;go_enter Tryz.func209,Tryz.ntmps209;go_wp2_with fail;go_loopw [3,5,11] (fun s _ i wr=>∃ k z:Nat,k <= 2/\s = .int .i64 z/\i = .int .i64 k/\z=(if k=0 then 0 else if k=1 then n else n+m)/\w=wr) (fun _ _ i _=>2 - (intOf i).toNat)
 case atStart=>exact ⟨0,0,Nat.zero_le _,rfl,rfl,rfl,rfl⟩
 case round =>
  obtain ⟨k,z,hk,rfl,rfl,hz,rfl⟩:=hrel;by_cases h2:k=2
  ·subst h2;simp at hz;subst hz;clear c0 c1;go_wp2_with fail;refine (zgw (n+m) _ cF).mono ?_;rintro e w3 ⟨a3,c3,rfl,O3⟩;have lL:=hide O3;clear O3;go_wp2_with fail;go_loopw [6,8,27] (fun v _ i wr=>∃ (k:Nat) (ap:Option Addr) (c:Nat) (acc:List En),k <= 2/\v = .slice ap acc.length c/\i = .int .i64 k/\Hid (acc=(if k=0 then [] else if k=1 then L else L++R)/\dU w.heap.size w.heap.size w wr ap c acc)) (fun _ _ i _=>2 - (intOf i).toNat)
   case atStart=>exact ⟨0,a3,c3,[],Nat.zero_le _,rfl,rfl,rfl,lL.out⟩
   case round =>
    clear lL;obtain ⟨k,ap,c,acc,hk,rfl,rfl,H⟩:=hrel
    rename World=>w4
    have d0:w4.cell? ⟨gb,0,none⟩=some (.slice ao n cap):=by rw [H.out.2.below.cell (World.block_lt_of_cell? _ _ Eq.out)];exact Eq.out
    have d1:w4.cell? ⟨gb,1,none⟩=some (.slice bo m cap'):=by rw [H.out.2.below.cell (World.block_lt_of_cell? _ _ mW.out)];exact mW.out
    by_cases h2:k=2
    ·subst h2
     have HF:Hid (∃ c',(Value.slice ap acc.length c:Value) = .slice ap (n+m) c'/\dU w.heap.size w.heap.size w w4 ap c' (L++R)):=by
      have e:acc=L++R:=H.out.1;rw [e,List.length_append,HL.out,IN.out];exact ⟨c,rfl,by rw [<- e];exact H.out.2⟩
     clear d0 d1;go_wp2_with fail;go_ret;obtain ⟨c',e1,e2⟩:=HF.out;exact ⟨ap,c',by rw [e1];rfl,e2⟩
    ·by_cases h1:k=1
     ·subst h1;have e:acc=L:=H.out.1
      have nq:acc.length=n:=by rw [e];exact HL.out
      have Lg:=hide (HR.out.below H.out.2.below);go_wp2_with (at_builtin;refine H.out.2.appendAll bo m cap' R Lg.out (by omega) rfl (.tmp 31) (.tmp 32) rfl acc.length rfl rfl rfl ?_;intro a5 c5 w5 O5);go_roundw
      case rel=>exact ⟨1+1,a5,c5,acc++R,by omega,by simp [List.length_append,IN.out,HL.out,e],by go_num,by rw [e];rfl,O5⟩
      case measure=>simp [intOf]
     ·obtain rfl:k=0:=by omega
      have e:acc=[]:=H.out.1
      have nq:acc.length=0:=by rw [e];rfl
      have BR:=hide (HS.out.below H.out.2.below);go_wp2_with (at_builtin;refine H.out.2.appendAll ao n cap L BR.out (by omega) rfl (.tmp 31) (.tmp 32) rfl acc.length rfl rfl rfl ?_;intro a5 c5 w5 O5);go_roundw
      case rel=>exact ⟨0+1,a5,c5,acc++L,by omega,by simp [HL.out,e],by go_num,by rw [e];rfl,O5⟩
      case measure=>simp [intOf]
  ·by_cases h1:k=1
   ·subst h1;simp at hz;subst hz;go_wp2_with fail;go_roundw
    case rel=>exact ⟨1+1,z+m,by omega,by go_num,by go_num,rfl,trivial⟩
    case measure=>simp [intOf]
   ·obtain rfl:k=0:=by omega
    simp at hz;subst hz;go_wp2_with fail;go_roundw
    case rel=>exact ⟨0+1,n,by omega,by go_num,by go_num,rfl,trivial⟩
    case measure=>simp [intOf]
end
section
open Go.RowKit

def nP (e:En):Int:=e.rep * 1000000000+e.num
theorem zig {x y:En} (hx:ceE x=0) (hy:ceE y=0) (h:ahead x y=true):nP x < nP y:=by
 have bx:∀ z:En,ceE z=0 -> (0 <= z.rep/\z.rep < 16)/\1 <= z.num/\z.num <= 1000000000:=by
  intro z hz;unfold ceE at hz;by_cases h1:isR z.rep=false
  ·rw [if_pos h1] at hz;omega
  ·rw [if_neg h1] at hz;by_cases h2:z.num < 1∨1000000000 < z.num
   ·rw [if_pos h2] at hz;omega
   ·have mX:isR z.rep=true:=by simpa using h1
    unfold isR at mX;simp at mX;exact ⟨mX,by omega,by omega⟩
 have b1:=bx x hx;have b2:=bx y hy;simp [ahead] at h;unfold nP;omega
theorem zfb {z:En} (hz:ceE z=0):1 <= nP z/\nP z <= 16000000000:=by
 unfold ceE at hz;by_cases h1:isR z.rep=false
 ·rw [if_pos h1] at hz;omega
 ·rw [if_neg h1] at hz;by_cases h2:z.num < 1∨1000000000 < z.num
  ·rw [if_pos h2] at hz;omega
  ·have mX:isR z.rep=true:=by simpa using h1
   unfold isR at mX;simp at mX;unfold nP;omega
theorem yd (L:List En) (n:Nat) (h:okN L n=true) (k:Nat) (hk:k < n):okAt L k=true:=by
 unfold okN at h;exact List.all_eq_true.1 h k (List.mem_range.2 hk)
theorem wu {L:List En} (h:chk L=0):okN L L.length=true:=by
 unfold chk at h;by_cases e:okN L L.length=true
 ·exact e
 ·rw [if_neg e] at h;omega
theorem zcb {L:List En} (h:chk L=0):L.length <= 16000000000:=by
 have ho:=wu h
 have key:∀ k,k < L.length -> ((k:Nat):Int)+1 <= nP (L.getD k en0):=by
  intro k
  induction k with
  | zero =>
   intro hk;have:=yd L _ ho 0 hk;simp [okAt] at this;have:=zfb this;simpa using this.1
  | succ k ih =>
   intro hk;have h1:=yd L _ ho (k+1) hk;have h0:=yd L _ ho k (by omega);simp only [okAt,Bool.and_eq_true,beq_iff_eq,Bool.or_eq_true,decide_eq_true_eq,Nat.add_sub_cancel] at h0 h1
   have ha:ahead (L.getD k en0) (L.getD (k+1) en0)=true:=by
    rcases h1.2 with e | e
    ·omega
    ·exact e
   have:=zig h0.1 h1.1 ha;have:=ih (by omega);omega
 rcases Nat.eq_zero_or_pos L.length with h0 | h0
 ·omega
 ·have h1:=key (L.length - 1) (by omega);have h2:=yd L _ ho (L.length - 1) (by omega);simp only [okAt,Bool.and_eq_true,beq_iff_eq] at h2;have:=(zfb h2.1).2;omega
end
section
open Go.RowKit Go.Lib
attribute [local go_sem ↓] zx zw
attribute [local go_sem] zI zt zF xu
def mj (A B R:List En) (er:Int):Prop:=(¬ (chk A=0/\chk B=0)/\R=[]/\er=1)∨((chk A=0/\chk B=0)/\dB (A++B) R er)
def Bn (w w':World) (e:Ending) (A B:List En):Prop:=∃ ao n c R er,e = .returned (.tuple #[.slice ao n c,.int .i64 er])/\aD w' ao n c R/\Below w.heap.size w w'/\mj A B R er
def iG (w w':World) (e:Ending) (A B:List En):Prop:=∃ ao n c R er,e = .returned (.tuple #[.slice ao n c,.int .i64 er])/\aD w' ao n c R/\Below w.heap.size w w'/\(∀ ad,ao=some ad -> w.heap.size <= ad.block)/\mj A B R er
theorem mN {w w':World} {A B:List En} (h:¬ (chk A=0/\chk B=0)) (hb:Below w.heap.size w w'):iG w w' (.returned (.tuple #[.slice none 0 0,.int .i64 1])) A B:=
 ⟨none,0,0,[],1,rfl,aD.none _,hb,fun ad h=>(by cases h),Or.inl ⟨h,rfl,rfl⟩⟩
theorem zdc (ao bo:Option Addr) (n cap m cap':Nat) (A B:List En) (w:World) (hS:aD w ao n cap A) (hR:aD w bo m cap' B) :
  Calls Tryz.prog 168 #[.slice ao n cap,.slice bo m cap'] w fun e w'=>iG w w' e A B:=by
 have HS:=hide hS;have HR:=hide hR;clear hS hR;obtain ⟨p,Hp⟩:∃ p,Hid (chk A=p):=⟨_,rfl⟩;obtain ⟨q,Hq⟩:∃ q,Hid (chk B=q):=⟨_,rfl⟩;by_cases h1:p=0
 ·by_cases h2:q=0
  ·have HA:Hid (chk A=0/\chk B=0):=⟨Hp.out.trans h1,Hq.out.trans h2⟩
   have d1:(p != 0)=false:=by simpa using h1
   have d2:(q != 0)=false:=by simpa using h2
   have cF:n+m <= 3518437208883:=by
    have l1:=zcb HA.out.1;have l2:=zcb HA.out.2;rw [HS.out.1] at l1;rw [HR.out.1] at l2;omega
   clear h1 h2;go_enter Tryz.func168,Tryz.ntmps168;go_wp2_with fail;refine (qv ao n cap A _ HS.out).mono ?_;rintro e w1 ⟨rfl,b1⟩;rw [Hp.out];have aN:=hide b1;clear b1;go_wp2_with fail;refine (qv bo m cap' B _ (HR.out.below aN.out)).mono ?_;rintro e w2 ⟨rfl,b2⟩;rw [Hq.out];have cg:=wTr aN b2;clear b2;go_wp2_with fail;have B3:=ze w2 (.cells #[.slice ao n cap,.slice bo m cap'] 22)
   have k0:(w2.alloc (.cells #[.slice ao n cap,.slice bo m cap'] 22)).cell? ⟨w2.heap.size,0,none⟩=some (.slice ao n cap):=by simp
   have k1:(w2.alloc (.cells #[.slice ao n cap,.slice bo m cap'] 22)).cell? ⟨w2.heap.size,1,none⟩=some (.slice bo m cap'):=by simp
   have aB:=wTr cg B3;refine (zdI w2.heap.size ao bo n cap m cap' A B _ (HS.out.below aB.out) (HR.out.below aB.out) k0 k1 cF).mono ?_;rintro e w4 ⟨a4,c4,rfl,O4⟩;have Fj:=hide O4;have aQ:=wTr aB O4.below;have HZ:Hid (w.heap.size <= (w2.alloc (.cells #[.slice ao n cap,.slice bo m cap'] 22)).heap.size):=aB.out.size
   have gk:∀ e∈A++B,e.sku.size <= maxLen:=fun e he=>by
    rcases List.mem_append.1 he with h | h
    ·exact HS.out.2.2.2.1 e h
    ·exact HR.out.2.2.2.1 e h
   have uC:=hide gk
   have Ah:Hid ((A++B).length=n+m):=by show _=_;rw [List.length_append,HS.out.1,HR.out.1]
   clear O4 B3 k0 k1 gk
   cases a4 with
   | none =>
    obtain ⟨S4,_⟩:=Fj.out.src uC.out (by rw [Ah.out];exact cF);obtain ⟨e1,rfl⟩:=S4.2.1 rfl;have HE:Hid (A++B=[]):=List.eq_nil_of_length_eq_zero e1
    have mw:n+m=0:=by rw [<- Ah.out];exact e1
    rw [mw];clear S4 e1;go_wp2_with fail;refine (tP none 0 _).mono ?_;rintro e w6 ⟨rfl,b6⟩;have HN:Hid (iG w w6 (.returned (.tuple #[.slice none 0 0,.int .i64 0])) A B):=⟨none,0,0,[],0,rfl,aD.none _,aQ.out.trans (b6.mono aQ.out.size),fun ad h=>(by cases h),Or.inr ⟨HA.out,by rw [HE.out];exact zbG⟩⟩;clear b6;go_wp2_with fail;go_ret2;exact HN.out
   | some a4 =>
    obtain ⟨M4,uS,pV,sG⟩:=Fj.out.mr;have lh:=hide M4
    have mW:Hid (n+m <= c4):=by show _ <= _;rw [<- Ah.out];exact uS
    have sf:=hide pV;have AX:Hid (w.heap.size <= a4.block):=Nat.le_trans HZ.out sG;clear M4 uS pV sG;go_wp2_with fail;refine (zdo a4 c4 (n+m) (A++B).toArray _ lh.out (by rw [List.size_toArray];exact Ah.out) cF mW.out sf.out (by simpa using uC.out)).mono ?_;rintro e w6 ⟨a6,n6,c6,R6,er,rfl,S6,b6,f6,t6⟩
    have HN:Hid (iG w w6 (.returned (.tuple #[.slice a6 n6 c6,.int .i64 er])) A B):=
     ⟨a6,n6,c6,R6,er,rfl,S6,aQ.out.trans (b6.mono AX.out),fun ad h=>Nat.le_trans AX.out (f6 ad h),Or.inr ⟨HA.out,by simpa using t6⟩⟩
    clear S6 b6 f6 t6;go_wp2_with fail;go_ret2;exact HN.out
  ·have HX:Hid (¬ (chk A=0/\chk B=0)):=fun h=>h2 (Hq.out.symm.trans h.2)
   have d1:(p != 0)=false:=by simpa using h1
   have d2:(q != 0)=true:=by simpa using h2
   clear h1 h2;go_enter Tryz.func168,Tryz.ntmps168;go_wp2_with fail;refine (qv ao n cap A _ HS.out).mono ?_;rintro e w1 ⟨rfl,b1⟩;rw [Hp.out];have aN:=hide b1;clear b1;go_wp2_with fail;refine (qv bo m cap' B _ (HR.out.below aN.out)).mono ?_;rintro e w2 ⟨rfl,b2⟩;rw [Hq.out];have cg:=wTr aN b2;clear b2;go_wp2_with fail;go_ret2;exact mN HX.out cg.out
 ·have HX:Hid (¬ (chk A=0/\chk B=0)):=fun h=>h1 (Hp.out.symm.trans h.1)
  have d1:(p != 0)=true:=by simpa using h1
  clear h1;go_enter Tryz.func168,Tryz.ntmps168;go_wp2_with fail;refine (qv ao n cap A _ HS.out).mono ?_;rintro e w1 ⟨rfl,b1⟩;rw [Hp.out];have aN:=hide b1;clear b1;go_wp2_with fail;go_ret2;exact mN HX.out aN.out
theorem zdW (ao bo:Option Addr) (n cap m cap':Nat) (A B:List En) (w:World) (hS:aD w ao n cap A) (hR:aD w bo m cap' B) :
  Calls Tryz.prog 168 #[.slice ao n cap,.slice bo m cap'] w fun e w'=>Bn w w' e A B:=by
 refine (zdc ao bo n cap m cap' A B w hS hR).mono ?_;rintro e w' ⟨a,n,c,R,er,h1,h2,h3,-,h4⟩;exact ⟨a,n,c,R,er,h1,h2,h3,h4⟩
end
end Go.Proofs.YtjffpimfngdggaaGreat.K
namespace Go.Proofs.YtjffpimfngdggaaGreat
section
open Go.RowKit
structure FcN (N:Nat) (f:Fc):Prop where
 a:∀ ad,f.ao=some ad -> N <= ad.block
 p:du N f.p
 r:∀ ad,f.ro=some ad -> N <= ad.block
 q:∀ c∈f.rs,du N c.p
theorem FcN.mono {N M:Nat} {f:Fc} (h:FcN N f) (hm:M <= N):FcN M f:=⟨fun ad e=>Nat.le_trans hm (h.a ad e),h.p.mono hm,fun ad e=>Nat.le_trans hm (h.r ad e),fun c hc=>(h.q c hc).mono hm⟩
def FcR (f:Fc):Prop:=f.rn <= f.rc/\(f.ro=none -> f.rc=0)
theorem aV.row {w:World} {f:Fc} (h:aV w f) (hr:FcR f):RcT w f.ro f.rn f.rc f.rs:=⟨h.rs,hr.1,hr.2⟩
theorem aV.off2 {w w':World} {f:Fc} {N:Nat} (h:aV w f) (hn:FcN N f) (hk:∀ k,N <= k -> w'.heap[k]? = w.heap[k]?):aV w' f:=
 ⟨h.es.kept (fun ad e=>hk _ (hn.a ad e)),jx h.p (fun ad e=>hk _ (hn.p.1 ad e)) (fun ad e=>hk _ (hn.p.2 ad e)),zhr h.rs (fun ad e=>hk _ (hn.r ad e)) (fun r hr=>⟨jx (h.rs.ok r hr).1 (fun ad e=>hk _ ((hn.q r hr).1 ad e)) (fun ad e=>hk _ ((hn.q r hr).2 ad e)),(h.rs.ok r hr).2⟩)⟩
theorem nK {w:World} {g:Nat} {fn:Func} {p q:Tmp} {m:cq} {v:Value} (h:fn.results=#[.cell p 29,.tmp q]) {tmps:Array Value} (hp:tmps.getD p undef = .pointer (some ⟨g,0,none⟩)) (hq:tmps.getD q undef=v) (A:aF w g m) :
  (results fn tmps).run Tryz.prog w = .ok (.tuple #[FaV m,v]) w:=by
 have hl:=bL A;simp only [results,h];rw [Array.getD_eq_getD_getElem?] at hp hq;simp [hp,hq,asAddr,hl]
def fz0:Fc:=⟨none,0,0,[],pv0,none,0,0,[]⟩
theorem zeV (w:World):aV w fz0:=⟨⟨rfl,fun _=>⟨rfl,rfl⟩,fun ad h=>(by cases h),fun e he=>(by cases he),Nat.zero_le _⟩,am.zero w,RcS.empty w⟩
theorem zh9 (N:Nat):FcN N fz0:=⟨fun ad h=>(by cases h),⟨fun ad h=>(by cases h),fun ad h=>(by cases h)⟩,fun ad h=>(by cases h),fun c hc=>(by cases hc)⟩
theorem zeU:FcR fz0:=⟨Nat.le_refl _,fun _=>rfl⟩
theorem zv:(#[.slice none 0 0,.slice none 0 0,.slice none 0 0,.slice none 0 0]:Array Value)=FaC (mkF fz0):=rfl
def lu (a:Array (Nat × Value)):Sem Value:=Instr.build 29 a
theorem xw (a:Array (Nat × Value)):Instr.build 29 a=lu a:=rfl
theorem qR (w:World):(lu #[]).run Tryz.prog w = .ok (.agg (FaC (mkF fz0))) w:=by kernel_rfl
theorem jp (a b:Option Addr) (n c m d:Nat) (p:Pv) (w:World):(lu #[(0,.slice a n c),(1,.agg (PC p)),(2,.slice b m d)]).run Tryz.prog w = .ok (.agg #[.slice a n c,.slice p.vo p.vn p.vc,.slice p.co p.cn p.cc,.slice b m d]) w:=by kernel_rfl
def FcD (w w':World) (e:Ending) (D:Fc -> Int -> Prop):Prop:=∃ f er,e = .returned (.tuple #[FaV (mkF f),.int .i64 er])/\aV w' f/\FcR f/\FcN w.heap.size f/\Below w.heap.size w w'/\D f er
theorem zeT {w W:World} {g:Nat} {m0:cq} {f:Fc} {er:Int} (D:Fc -> Int -> Prop) (hX:aF W g m0) (hF:aV W f) (hr:FcR f) (hn:FcN (g+1) f) (hb:Below w.heap.size w W) (hg:w.heap.size <= g) (hD:D f er) :
  aF (W.setRow g (FaC (mkF f))) g (mkF f)/\FcD w (W.setRow g (FaC (mkF f))) (.returned (.tuple #[FaV (mkF f),.int .i64 er])) D:=
 ⟨hX.setRow,f,er,rfl,hF.off2 hn (fun k hk=>setRow_other _ _ _ _ (by omega)),hr,hn.mono (by omega),zh hb hg,hD⟩
theorem zfk {P Q:Pst} (hP:aj P) (hQ:aj Q):(1+P.cloud.length)+((1+Q.cloud.length)+0) <= 8796093022207:=by
 have h1:=(jW (zW.2 hP:af (ae P) P)).1;have h2:=(jW (zW.2 hQ:af (ae Q) Q)).1;omega
def Nz (c:Int) (f g h:Fc) (er:Int):Prop:=(¬ (av f/\av g)/\er=1/\h=fz0)∨(av f/\av g/\∃ R e,K.mj f.es g.es R e/\((e≠0/\er=(if c=0 then e else c)/\h=fz0)∨(e=0/\er=0/\h.es=R/\af (aw [f.p,g.p]) h.p.P/\iQ f.rs g.rs h.rs/\h.rn <= f.rn+g.rn)))
theorem zfq {p q:Pv} (hP:aj p.P) (hQ:aj q.P):wt [p,q] <= 8796093022207:=zfk hP hQ
def EK (a:Array (Nat × Value)):Sem Value:=Instr.buildSlice 151 2 a
theorem x4 (a:Array (Nat × Value)):Instr.buildSlice 151 2 a=EK a:=rfl
theorem qN (p q:Pv) (w:World):(EK #[(0,.agg (PC p)),(1,.agg (PC q))]).run Tryz.prog w = .ok (.slice (some ⟨w.heap.size,0,none⟩) 2 2) (w.alloc (.cells #[.slice p.vo p.vn p.vc,.slice p.co p.cn p.cc,.slice q.vo q.vn q.vc,.slice q.co q.cn q.cc] 26)):=by kernel_rfl
theorem uL (w:World) (p q:Pv) (hp:am w p) (hq:am w q):fq (w.alloc (.cells #[.slice p.vo p.vn p.vc,.slice p.co p.cn p.cc,.slice q.vo q.vn q.vc,.slice q.co q.cn q.cc] 26)) (some ⟨w.heap.size,0,none⟩) 2 [p,q]:=by
 refine zcB _ w.heap.size [p,q] _ rfl 26 2 rfl (heap_alloc_new w _) (fun x hx=>?_);rcases List.mem_cons.1 hx with rfl | hx
 ·exact hp.below (ze w _)
 ·obtain rfl:=List.mem_singleton.1 hx;exact hq.below (ze w _)
end
section
open Go.RowKit
variable {w w' : World} {g : Nat}
def aE (w:World) (g:Nat) (m:cq):Prop:=w.heap[g]? = some (.cells (FaC m) 31 (0,0))
theorem aE.lt {m:cq} (h:aE w g m):g < w.heap.size:=(Array.getElem?_eq_some_iff.1 h).1
theorem aE.below {m:cq} (h:aE w g m) (hb:Below w.heap.size w w'):aE w' g m:=(hb.block g h.lt).trans h
theorem aE.c0 {m:cq} (h:aE w g m):w.cell? ⟨g,0,none⟩=some (.slice m.addso m.addsn m.addsc):=by unfold aE at h;simp [World.cell?,h,FaC]
theorem aE.c1 {m:cq} (h:aE w g m):w.cell? ⟨g,1,none⟩=some (.slice m.veco m.vecn m.vecc):=by unfold aE at h;simp [World.cell?,h,FaC]
theorem aE.c2 {m:cq} (h:aE w g m):w.cell? ⟨g,2,none⟩=some (.slice m.cloudo m.cloudn m.cloudc):=by unfold aE at h;simp [World.cell?,h,FaC]
theorem aE.c3 {m:cq} (h:aE w g m):w.cell? ⟨g,3,none⟩=some (.slice m.recso m.recsn m.recsc):=by unfold aE at h;simp [World.cell?,h,FaC]
theorem qr (w:World) (m:cq):aE (w.alloc (.cells (FaC m) 31)) w.heap.size m:=by unfold aE;rw [heap_alloc_new]
def ma (v:Value):Sem Value:=Instr.loadAt 31 v
theorem zL (v:Value):Instr.loadAt 31 v=ma v:=rfl
def nR (p v:Value):Sem Unit:=Instr.storeAt 31 p v
theorem zK (p v:Value):Instr.storeAt 31 p v=nR p v:=rfl
theorem nV:(Tryz.prog.info? 31).map (·.size)=some 4:=by kernel_rfl
theorem aE.range {m:cq} (h:aE w g m):w.rangeAt g 0 (FaC m).toList:=by
 intro j v hv;rw [Nat.zero_add];unfold aE at h;simp only [Array.getElem?_toList] at hv;simp [World.cell?,h,hv]
theorem zcv {m:cq} (A:aE w g m):(loadVar 31 ⟨g,0,none⟩).run Tryz.prog w = .ok (FaV m) w:=by
 have:=run_loadVar_mid (P:=Tryz.prog) w g 0 31 (FaC m).toList _ A.range Tryz.underlying31 rfl (by rw [nV];rfl);simpa using this
theorem qj {m:cq} (A:aE w g m):(ma (.pointer (some ⟨g,0,none⟩))).run Tryz.prog w = .ok (.agg (FaC m)) w:=by
 unfold ma;simp only [Instr.loadAt,Instr.sureAddr,Sem.run_bind,Sem.run_pure,Result.andThen];exact zcv A
theorem x9 {m m':cq} (A:aE w g m):(nR (.pointer (some ⟨g,0,none⟩)) (.agg (FaC m'))).run Tryz.prog w = .ok () (w.setRow g (FaC m')):=by
 unfold nR;have h:=run_storeCells_from (P:=Tryz.prog) g 31 (FaC m').toList 0 (FaC m) w A (by simp [FaC]) (zfB m')
 cases hq:Tryz.prog.info? 31 with
 | none=>have:=nV;simp [hq] at this
 | some x =>
  have hs:x.size=4:=by have:=nV;simpa [hq] using this
  simp only [Instr.storeAt,Instr.sureAddr,Sem.run_bind,Sem.run_pure,Result.andThen,storeVar,sizeOf,typeInfo,zk,zm];simp at h;simp [h,hq,hs]
theorem aE.setRow {m m':cq} (A:aE w g m):aE (w.setRow g (FaC m')) g m':=setRow_heap w g _ _ _ _ A
theorem aE.cs {w:World} {g:Nat} {f:Fc} (h:aE w g (mkF f)):w.cell? ⟨g,0,none⟩=some (.slice f.ao f.an f.ac)/\w.cell? ⟨g,3,none⟩=some (.slice f.ro f.rn f.rc):=⟨h.c0,h.c3⟩
theorem aE.past {w:World} {g:Nat} {f:Fc} (h:aE w g (mkF f)):PAt w ⟨g,1,none⟩ f.p:=⟨h.c1,h.c2⟩
theorem aE.ne {W:World} {g:Nat} {m:cq} (A:aE W g m) {a:Addr} {v:Value} (hc:W.cell? a=some v) (hv:∀ o n c,v ≠ .slice o n c):a.block≠g:=by
 rintro rfl;obtain ⟨b,o,k⟩:=a;unfold aE at A;have h:=World.cell?_spot hc;obtain rfl:k=none:=h;simp only [World.cell?,A] at hc;rcases o with _ | _ | _ | _ | o <;> simp [FaC] at hc
 all_goals exact absurd hc.symm (hv _ _ _)
theorem qM {W:World} {g:Nat} {a:Addr} (c:Array Value) (h:a.block≠g):(W.setRow g c).cell? a=W.cell? a:=by
 unfold World.cell?;rw [setRow_other _ _ _ _ h]
theorem ze5 {W:World} {g:Nat} {m:cq} {ao:Option Addr} {n cap:Nat} {L:List K.En} (A:aE W g m) (h:K.aD W ao n cap L) (c:Array Value):K.aD (W.setRow g c) ao n cap L:=by
 refine ⟨h.1,h.2.1,fun ad e t ht=>?_,h.2.2.2⟩;have B:=h.2.2.1 ad e t ht;have hb:(ad.add (t * 4)).block≠g:=A.ne B.c0 (fun _ _ _ h=>by cases h);exact ⟨by rw [qM c hb];exact B.c0,by rw [qM c (by rw [zs];exact hb)];exact B.c1,by rw [qM c (by rw [zs];exact hb)];exact B.c2,by rw [qM c (by rw [zs];exact hb)];exact B.c3⟩
theorem za1 {W:World} {g:Nat} {m:cq} {p:Pv} (A:aE W g m) (h:am W p) (c:Array Value):am (W.setRow g c) p:=by
 refine ⟨⟨h.vec.1,h.vec.2.1,fun ad e t ht=>?_⟩,⟨h.cloud.len,h.cloud.nil,fun ad e t ht=>?_,h.cloud.big,h.cloud.cap⟩,h.big⟩
 ·have B:=h.vec.2.2 ad e t ht;rw [qM c (A.ne B (fun _ _ _ h=>by cases h))];exact B
 ·have B:=h.cloud.cell ad e t ht;have hb:=A.ne B.c0 (fun _ _ _ h=>by cases h);exact ⟨by rw [qM c hb];exact B.c0,by rw [qM c (by rw [zs];exact hb)];exact B.c1,by rw [qM c (by rw [zs];exact hb)];exact B.c2⟩
theorem zf2 {W:World} {g:Nat} {m:cq} {ao:Option Addr} {n cap:Nat} {L:List Rc} (A:aE W g m) (h:RcS W ao n cap L) (c:Array Value):RcS (W.setRow g c) ao n cap L:=by
 refine ⟨h.len,h.nil,fun ad ha t ht=>?_,fun r hr=>⟨za1 A (h.ok r hr).1 c,(h.ok r hr).2⟩,h.big⟩;have B:=h.at_ ad ha t ht;have hb:=A.ne B.c0 (fun _ _ _ h=>by cases h);exact ⟨by rw [qM c hb];exact B.c0,by rw [qM c (by rw [zs];exact hb)];exact B.c1,by rw [qM c (by rw [zs];exact hb)];exact B.c2⟩
theorem aV.offW {W:World} {g:Nat} {m:cq} {f:Fc} (h:aV W f) (A:aE W g m) (c:Array Value):aV (W.setRow g c) f:=⟨ze5 A h.es c,za1 A h.p c,zf2 A h.rs c⟩
theorem iY {w:World} {g:Nat} {fn:Func} {p q:Tmp} {m:cq} {v:Value} (h:fn.results=#[.cell p 31,.tmp q]) {tmps:Array Value} (hp:tmps.getD p undef = .pointer (some ⟨g,0,none⟩)) (hq:tmps.getD q undef=v) (A:aE w g m) :
  (results fn tmps).run Tryz.prog w = .ok (.tuple #[FaV m,v]) w:=by
 have hl:=zcv A;simp only [results,h];rw [Array.getD_eq_getD_getElem?] at hp hq;simp [hp,hq,asAddr,hl]
def o8 (a:Array (Nat × Value)):Sem Value:=Instr.build 31 a
theorem qX (a:Array (Nat × Value)):Instr.build 31 a=o8 a:=rfl
theorem qD (w:World):(o8 #[]).run Tryz.prog w = .ok (.agg (FaC (mkF fz0))) w:=by kernel_rfl
theorem xH (a b:Option Addr) (n c m d:Nat) (p:Pv) (w:World):(o8 #[(0,.slice a n c),(1,.agg (PC p)),(2,.slice b m d)]).run Tryz.prog w = .ok (.agg (FaC (mkF ⟨a,n,c,[],p,b,m,d,[]⟩))) w:=by kernel_rfl
def SwE (w w':World) (e:Ending) (D:Fc -> Int -> Prop):Prop:=∃ s er,e = .returned (.tuple #[FaV (mkF s),.int .i64 er])/\aV w' s/\Below w.heap.size w w'/\D s er
def SwS (w w':World) (e:Ending) (D:Fc -> Prop):Prop:=∃ s,e = .returned (FaV (mkF s))/\aV w' s/\Below w.heap.size w w'/\D s
end
section
open Go.RowKit

theorem dr.sn {w:World} {g:Nat} {s:Sn} (h:dr w g s):iP w ⟨g,0,none⟩ s:=⟨h.at.1,by rw [Addr.add_lit];exact h.at.2.1,by rw [Addr.add_lit];exact h.at.2.2⟩
theorem zew (s t:Sn) (w:World):Calls Tryz.prog 166 #[SV s,SV t] w fun e w'=>e = .returned (.int .i64 (nrC s ⟨t.rep,t.hi⟩))/\Below w.heap.size w w':=by
 have b1:=ze w (.cells (SC s) 104);have x1:=qH w s;have s1:=World.size_alloc w (.cells (SC s) 104);obtain ⟨w1,cR⟩:∃ w1,w.alloc (.cells (SC s) 104)=w1:=⟨_,rfl⟩;obtain ⟨g1,cT⟩:∃ g1,w.heap.size=g1:=⟨_,rfl⟩;rw [cR] at b1 x1 s1;rw [cT] at x1 s1;have b2:=ze w1 (.cells (SC t) 104);have x2:=qH w1 t;obtain ⟨w2,fi⟩:∃ w2,w1.alloc (.cells (SC t) 104)=w2:=⟨_,rfl⟩;rw [fi] at b2 x2;rw [s1] at x2;have HB:=hide (b1.trans (b2.mono b1.size));have HX:Hid (dr w2 g1 s/\dr w2 (g1+1) t):=⟨x1.below b2,x2⟩
 have aG:Hid (∀ W,Below w2.heap.size w2 W -> W.cell? ⟨g1,0,none⟩=some (.int .i64 s.rep)/\W.cell? ⟨g1,2,none⟩=some (.int .i64 s.hi)/\W.cell? ⟨g1+1,0,none⟩=some (.int .i64 t.rep)/\W.cell? ⟨g1+1,2,none⟩=some (.int .i64 t.hi)):=fun W hW=>by
  obtain ⟨c0,-,c2⟩:=(HX.out.1.below hW).at
  have hd:=(HX.out.2.below hW).at
  exact ⟨c0,c2,hd.1,hd.2.2⟩
 obtain ⟨p,Hp⟩:∃ p,Hid (au s.rep t.rep=p):=⟨_,rfl⟩;obtain ⟨q,Hq⟩:∃ q,Hid (au s.hi t.hi=q):=⟨_,rfl⟩
 have HR:Hid (nrC s ⟨t.rep,t.hi⟩=or2 p q):=by show _=_;unfold nrC;rw [Hp.out,Hq.out]
 clear b1 b2 x1 x2;go_enter Tryz.func166,Tryz.ntmps166;go_wp2_with fail;clear cR fi s1 cT;refine wp_region_held_drew (S:=fun W=>W.cell? ⟨g1,0,none⟩=some (.int .i64 s.rep)/\W.cell? ⟨g1,2,none⟩=some (.int .i64 s.hi)/\W.cell? ⟨g1+1,0,none⟩=some (.int .i64 t.rep)/\W.cell? ⟨g1+1,2,none⟩=some (.int .i64 t.hi)) (by kernel_rfl) (aG.out _ (zg w2)) (fun hHeld=>?_);refine wU 0 ?_;refine wU 1 ?_;refine wU 2 ?_;refine wU 3 ?_;refine wU 5 ?_;refine wU 6 ?_;refine wU 7 ?_;refine wU 8 ?_;refine wpAnyH_ready (rs:=[4]) (by kernel_rfl) (by simp) (.cons rfl (fun K hK=>?_) .nil);go_simp;go_wp2_with fail;refine (qA s.rep t.rep _).mono ?_;rintro e w' ⟨rfl,rfl⟩;rw [Hp.out];refine hK.out _ _ (aG.out _ (zg w2)) (fun hHeld=>?_);clear hK K;refine wpAnyH_ready (rs:=[9]) (by kernel_rfl) (by simp) (.cons rfl (fun K hK=>?_) .nil);go_simp
 go_wp2_with fail;refine (qA s.hi t.hi _).mono ?_;rintro e w' ⟨rfl,rfl⟩;rw [Hq.out];refine hK.out _ _ (aG.out _ (zg w2)) (fun hHeld=>?_);clear hK K;have aB:=hide ((zg w2).trans (ze w2.drew (.cells #[.int .i64 p,.int .i64 q] 3)));have HO:=hide (wZ p q w2.drew w2.heap.size rfl);refine wpAnyH_ready (rs:=[10]) (by kernel_rfl) (by simp) (.cons rfl (fun K hK=>?_) .nil);go_simp;refine hK.out _ _ (aG.out _ aB.out) (fun hHeld=>?_);clear hK K;refine wpAnyH_ready (rs:=[11]) (by kernel_rfl) (by simp) (.cons rfl (fun K hK=>?_) .nil);go_simp;go_wp2_with fail;refine HO.out.mono ?_;rintro e w' ⟨rfl,rfl⟩;refine hK.out _ _ (aG.out _ aB.out) (fun hHeld=>?_);clear hK K;refine wU 12 ?_;refine wpAnyH_done (by kernel_rfl) ?_ _;clear hHeld;go_wp2_with fail;go_ret;exact ⟨zH HR.out.symm,HB.out.trans (aB.out.mono HB.out.size)⟩
end
end Go.Proofs.YtjffpimfngdggaaGreat
