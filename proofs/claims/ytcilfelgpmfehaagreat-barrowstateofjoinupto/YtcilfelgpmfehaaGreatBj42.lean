/- YGb -/
import Derived.Test.YtcilfelgpmfehaaGreatBj11
import Derived.Lib.QuietBelow
set_option maxRecDepth 100000
set_option maxHeartbeats 8000000
namespace Go.Proofs.YtcilfelgpmfehaaGreat.K
open Go.RowKit
attribute [local go_sem ↓] zu zt qO
attribute [local go_sem] zC zs zB
theorem gB.spotT {w:World} {p:Addr} {e:En} (A:gB w p e):p.spot=none:=World.cell?_spot A.c0
theorem ze5 (e:En):(ceE e == 0)=(iM e && eS e.sku.data.toList && decide (1 <= e.qty) && decide (e.qty <= 1000000)):=by
 unfold ceE iM;by_cases h1:isR e.rep=false
 ·rw [if_pos h1,h1];rfl
 ·rw [if_neg h1]
  have i6:isR e.rep=true:=by simpa using h1
  by_cases h2:e.num < 1∨1000000000 < e.num
  ·rw [if_pos h2,i6];rcases h2 with h | h
   ·have:¬ 1 <= e.num:=by omega
    simp [this]
   ·have:¬ e.num <= 1000000000:=by omega
    simp [this]
  ·rw [if_neg h2,i6]
   have g1:1 <= e.num:=by omega
   have g2:e.num <= 1000000000:=by omega
   by_cases h3:eS e.sku.data.toList=false
   ·rw [if_pos h3,h3];simp
   ·rw [if_neg h3]
    have Jf:eS e.sku.data.toList=true:=by simpa using h3
    by_cases h4:e.qty < 1∨1000000 < e.qty
    ·rw [if_pos h4,Jf];rcases h4 with h | h
     ·have:¬ 1 <= e.qty:=by omega
      simp [this]
     ·have:¬ e.qty <= 1000000:=by omega
      simp [this]
    ·rw [if_neg h4,Jf]
     have g3:1 <= e.qty:=by omega
     have g4:e.qty <= 1000000:=by omega
     simp [g1,g2,g3,g4]
theorem yZ (ao:Option Addr) (n cap:Nat) (L:List En) (w:World) (hS:aF w ao n cap L) :
  Calls Tryz.prog 28 #[.slice ao n cap] w fun e w'=>e = .returned (.bool (okN L L.length))/\Below w.heap.size w w':=by
 have HS:=hide hS;have HL:Hid (L.length=n):=hS.1;have hn:=hS.2.2.2.2;clear hS;obtain ⟨v,Hv⟩:∃ v,Hid (okN L L.length=v):=⟨_,rfl⟩;rw [Hv.out];go_enter Tryz.func28,Tryz.ntmps28;go_wp2_with fail;go_loopw [7] (fun i wr=>∃ k:Nat,k <= n/\i = .int .i64 k/\Hid (okN L k=true)/\Hid (Below w.heap.size w wr)) (fun i _=>n - (intOf i).toNat)
 case atStart=>exact ⟨0,Nat.zero_le _,rfl,rfl,Below.refl _ _⟩
 case round =>
  obtain ⟨k,hk,rfl,HK,HB⟩:=hrel;by_cases aq:k < n
  ·obtain ⟨ad,rfl,A0⟩:=(HS.out.below HB.out).at k aq;have dz:=zX A0;have gL:=HS.out.sku k aq
   have dE:Hid (okAt L k=false -> false=v):=fun h=>by rw [<- Hv.out,zcY L k _ (by rw [HL.out];exact aq) h]
   have oB:okAt L k=((ceE (L.getD k en0) == 0) && (decide (k=0) || ahead (L.getD (k - 1) en0) (L.getD k en0))):=rfl;obtain ⟨e,He⟩:∃ e,Hid (L.getD k en0=e):=⟨_,rfl⟩
   rw [He.out] at dz A0 gL oB
   have mE:=hide oB
   have fV:=ze5 e;have pY:=hide gL;obtain ⟨wk,cr,X1,B1,Z1⟩:=gE wr e wr.heap.size rfl;have HX:=hide X1;have az:=wTr HB B1;have aW:=hide B1
   have lD:=xw X1.at
   clear X1 B1 Z1 gL oB
   obtain ⟨d,Hd⟩:∃ d,Hid (iM e=d):=⟨_,rfl⟩;rw [Hd.out] at fV;go_wp2_with fail;refine (zaf e _).mono ?_;rintro y w2 ⟨rfl,b2⟩;rw [Hd.out];have dN:=hide (HX.out.below b2);have cd:=wTr az b2;have uC:=wTr aW b2
   have c2:w2.cell? ⟨wr.heap.size,2,none⟩=some (.string e.sku):=by have h:=dN.out.at.c2;simpa [Addr.add] using h
   have c3:w2.cell? ⟨wr.heap.size,3,none⟩=some (.int .i64 e.qty):=by have h:=dN.out.at.c3;simpa [Addr.add] using h
   clear b2 lD cr dz HX az aW
   cases d with
   | false =>
    have HV:=hide (dE.out (by rw [mE.out,fV];rfl));clear fV;go_wp2_with fail;go_ret;exact ⟨zm HV.out,cd.out⟩
   | true =>
    obtain ⟨gd,Hg⟩:∃ gd,Hid (eS e.sku.data.toList=gd):=⟨_,rfl⟩;rw [Hg.out] at fV;go_wp2_with fail;refine (vO e.sku _ pY.out).mono ?_;rintro y w' ⟨rfl,KQ⟩;obtain rfl:=KQ.symm;rw [Hg.out]
    cases gd with
    | false =>
     have HV:=hide (dE.out (by rw [mE.out,fV];rfl));clear fV;go_wp2_with fail;go_ret;exact ⟨zm HV.out,cd.out⟩
    | true =>
     by_cases h3:e.qty < 1
     ·have g3:decide (e.qty < 1)=true:=decide_eq_true h3;have HV:=hide (dE.out (by rw [mE.out,fV];have:¬ 1 <= e.qty:=(by omega);simp [this]));clear fV h3;go_wp2_with fail;go_ret;exact ⟨zm HV.out,cd.out⟩
     ·have g3:decide (e.qty < 1)=false:=decide_eq_false h3;by_cases h4:1000000 < e.qty
      ·have g4:decide (1000000 < e.qty)=true:=decide_eq_true h4;have HV:=hide (dE.out (by rw [mE.out,fV];have:¬ e.qty <= 1000000:=(by omega);simp [this]));clear fV h3 h4;go_wp2_with fail;go_ret;exact ⟨zm HV.out,cd.out⟩
      ·have g4:decide (1000000 < e.qty)=false:=decide_eq_false h4
       have us:(ceE e == 0)=true:=by rw [fV];have a1:1 <= e.qty:=(by omega);have a2:e.qty <= 1000000:=(by omega);simp [a1,a2]
       clear fV h3 h4;by_cases iA:k=0
       ·have HN:Hid (okN L (k+1)=true):=by show _=_;rw [vq,HK.out,mE.out,us];simp [iA]
        subst iA;clear us;go_wp2_with fail;refine wp_region_quiet_below (by kernel_rfl) (by kernel_rfl) ?_
        repeat (with_reducible (refine wpQuiet_step ?_);intro K hK;go_simp;(try rw [if_neg (by unfold undef;simp)]);(with_reducible (refine hK _ ?_);clear hK K))
        with_reducible (refine wpQuiet_nil ?_)
        intro _ hw';obtain ⟨⟨dq,osq⟩,hw''⟩:=hw';subst hw'';have dA:=hide (cd.out.trans ((below_regrown _ dq osq).mono cd.out.size));go_wp2_with fail;go_roundw
        case rel=>exact ⟨0+1,by omega,by go_num,HN,dA⟩
        case measure=>simp [intOf];omega
       ·have sh:decide ((0:Int) < (k:Int))=true:=decide_eq_true (by omega)
        have nJ:0 < k:=by omega
        obtain ⟨j,hj⟩:∃ j,k - 1=j:=⟨_,rfl⟩
        have hz:IntKind.i64.wrap ((k:Int) - 1)=(j:Int):=by rw [IntKind.wrap_i64];omega
        have iR:j < n:=by omega
        have A1:=((HS.out.below HB.out).2.2.1 ad rfl j iR).on uC.out;obtain ⟨e1,CQ⟩:∃ e1,Hid (L.getD j en0=e1):=⟨_,rfl⟩;rw [CQ.out] at A1;have FS:=hide A1;have ov:=A1.spotT;obtain ⟨q,Hq⟩:∃ q,Hid (ahead e1 e=q):=⟨_,rfl⟩
        have rm:okAt L k=q:=by rw [mE.out,us,hj,CQ.out,Hq.out];simp [iA]
        clear A1 us iA;have l1:∀ d os,(io (.pointer (some (ad.add (j * 4))))).run Tryz.prog (Sort.grow (redrawn w2 d) os) = .ok (.agg (DC e1)) (Sort.grow (redrawn w2 d) os):=fun d os=>xw (FS.out.on (below_regrown w2 d os))
        have l2:∀ d os,(io (.pointer (some ⟨wr.heap.size,0,none⟩))).run Tryz.prog (Sort.grow (redrawn w2 d) os) = .ok (.agg (DC e)) (Sort.grow (redrawn w2 d) os):=fun d os=>xw (dN.out.below (below_regrown w2 d os)).at
        have cD:∀ d os,Calls Tryz.prog 31 #[.agg (DC e1),.agg (DC e)] (Sort.grow (redrawn w2 d) os) fun x w''=>x = .returned (.bool q)/\∃ p:Regrown,w''=Sort.grow (redrawn w2 p.d) p.os:=fun d os=>by
         have:=kK e1 e (Sort.grow (redrawn w2 d) os);rw [Hq.out] at this;exact Calls.regrown_of this
        cases q with
        | false =>
         have HV:=hide (dE.out rm);clear rm;go_wp2_with fail;refine wp_region_quiet_below (by kernel_rfl) (by kernel_rfl) ?_
         repeat (with_reducible (refine wpQuiet_step ?_);intro K hK;go_simp;(try rw [if_neg (by unfold undef;simp)]);first | (with_reducible (refine hK _ ?_);clear hK K) | (apply Exists.intro;refine ⟨fun _=>?_,hK _ ?_⟩;(go_at_call 31;exact cD _ _);clear hK K))
         with_reducible (refine wpQuiet_nil ?_)
         intro _ hw';obtain ⟨⟨dq,osq⟩,hw''⟩:=hw';subst hw'';have dA:=hide (cd.out.trans ((below_regrown w2 dq osq).mono cd.out.size));go_wp2_with fail;go_ret;exact ⟨zm HV.out,dA.out⟩
        | true =>
         have HN:Hid (okN L (k+1)=true):=by show _=_;rw [vq,HK.out,rm];rfl
         clear rm;go_wp2_with fail;refine wp_region_quiet_below (by kernel_rfl) (by kernel_rfl) ?_
         repeat (with_reducible (refine wpQuiet_step ?_);intro K hK;go_simp;(try rw [if_neg (by unfold undef;simp)]);first | (with_reducible (refine hK _ ?_);clear hK K) | (apply Exists.intro;refine ⟨fun _=>?_,hK _ ?_⟩;(go_at_call 31;exact cD _ _);clear hK K))
         with_reducible (refine wpQuiet_nil ?_)
         intro _ hw';obtain ⟨⟨dq,osq⟩,hw''⟩:=hw';subst hw'';have dA:=hide (cd.out.trans ((below_regrown w2 dq osq).mono cd.out.size));go_wp2_with fail;go_roundw
         case rel=>exact ⟨k+1,by omega,by go_num,HN,dA⟩
         case measure=>simp [intOf];omega
  ·obtain rfl:k=n:=by omega
   have HV:Hid (true=v):=by show _=_;rw [<- Hv.out,HL.out,HK.out]
   go_wp2_with fail;go_ret;exact ⟨zm HV.out,HB.out⟩
end Go.Proofs.YtcilfelgpmfehaaGreat.K
