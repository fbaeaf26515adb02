/- YGmP -/
import Derived.Test.YtcilfelgpmfehaaGreatBj47
import Derived.JoinedCond
set_option maxRecDepth 100000
namespace Go.Proofs.YtcilfelgpmfehaaGreat.barrowStateOfJoin
open Go.ChangeShapes Go.WideShapes Go.ChangeAt Go.RowKit Go.Joins

theorem lifted (os:Os) (started:os.Started) (H:Type) (enc:TypeId × Value -> H) (F:Stop.Interp) :
  ReturnsInHanded {} Tryz.checked os 3 .any ((Rows.OpenSpec.upto Rows.barrowStateOfJoinSpec).pre6 enc Tryz.prog Tryz.f3 Rows.barrowStateOfJoinUptoRow.domain false) (((Rows.OpenSpec.upto Rows.barrowStateOfJoinSpec).at F).post enc Tryz.prog Tryz.f3 false true false false):=by
 refine returnsInHanded_of_cond (C:=Tryz.checked) (s:=Rows.OpenSpec.upto Rows.barrowStateOfJoinSpec) (k:=Rows.uptoSmall) rfl own started (by kernel_rfl) Tryz.func3
  (OpenSpec.witness (enc:=enc) (C:=Tryz.checked) (s:=Rows.OpenSpec.upto Rows.barrowStateOfJoinSpec) (k:=Rows.uptoSmall) rfl false ⟨#[],#[.agg #[.slice none 0 0,.slice none 0 0,.slice none 0 0,.slice none 0 0],.agg #[.slice none 0 0,.slice none 0 0,.slice none 0 0,.slice none 0 0]],[]⟩ 8 (by kernel_rfl) (by kernel_rfl) (by kernel_rfl)
   (x:=([.agg [.nil,.agg [.nil,.nil],.nil],.agg [.nil,.agg [.nil,.nil],.nil]],[],[])) (by kernel_rfl) rfl (by kernel_rfl)) ?_
 intro W base args ds gs before hval0 hW _ hk _;have ul:∀ (j:Nat) t v,Tryz.f3.params[j]? = some t -> args[j]? = some v -> Value.okWide Tryz.prog W .any base t v:=hval0;have G6:=hW;obtain ⟨p,q,Jr,hV,rfl,NE,Eb⟩:=hW;have hA:DataW.TrodAll enc Tryz.prog W 0 (fun _=>true) true Tryz.f3.params.toList args.toList ds p:=Jr;rw [Tryz.params3] at hA ul;obtain ⟨v0,vs0,d0,ds0,p0,q0,Jn,rfl,rfl,h0,r0⟩:=trodAll_cons hA;obtain ⟨v1,vs1,d1,ds1,p1,q1,rfl,rfl,rfl,h1,r1⟩:=trodAll_cons r0;obtain ⟨rfl,rfl,rfl⟩:=trodAll_nil r1
 obtain rfl:args=#[v0,v1]:=by cases args;simp_all
 obtain ⟨rfl,rfl⟩:=trodVars_none hV;have hb:Rows.uptoBulkAll ([d0,d1]++[]) <= 1048576:=of_decide_eq_true hk;have lF:=h0;obtain ⟨cs0,rfl,La⟩:=okWide_struct Tryz.underlying29 (ul 0 29 v0 rfl rfl);obtain ⟨fuel0,J1⟩:=lF
 have rP:(Value.agg cs0).cells=cs0:=by simp [Value.cells]
 rw [rP] at J1;obtain ⟨fo,ecs0,So⟩:=vU J1 (Nat.le_trans (bm _ d0 (by simp)) hb)
 obtain rfl:cs0=FaC (mkF fo):=by rw [<- Array.toList_inj];exact ecs0
 have i6:=h1;obtain ⟨cs1,rfl,Mr⟩:=okWide_struct Tryz.underlying29 (ul 1 29 v1 rfl rfl);obtain ⟨fuel1,tg⟩:=i6
 have r5:(Value.agg cs1).cells=cs1:=by simp [Value.cells]
 rw [r5] at tg;obtain ⟨ff,ecs1,Sf⟩:=vU tg (Nat.le_trans (bm _ d1 (by simp)) hb)
 obtain rfl:cs1=FaC (mkF ff):=by rw [<- Array.toList_inj];exact ecs1
 clear Jr hval0;simp only [List.append_nil] at G6;have aq:∀ x∈p0++(p1),x.block < W.heap.size:=fun x hx=>G6.lt x (by simpa using hx);refine (j6 fo ff W So Sf).mono ?_;rintro e W' ⟨rfl,GG⟩;exact ⟨_,rfl,_,_,_,[],_,[],G6,trodAll_cons_mk (shut_bool Tryz.underlying4 _) trodAll_mk0,(trodAll_cons_mk (Below.trod np (by kernel_rfl) (of_decide_eq_true (by kernel_rfl)) h0 GG (fun x hx=>aq x (by simp [hx]))) (trodAll_cons_mk (Below.trod np (by kernel_rfl) (of_decide_eq_true (by kernel_rfl)) h1 GG (fun x hx=>aq x (by simp [hx]))) trodAll_mk0)),rfl,GG.frame _,fun h=>by cases h⟩
end Go.Proofs.YtcilfelgpmfehaaGreat.barrowStateOfJoin
namespace Go.Proofs.YtcilfelgpmfehaaGreat
theorem barrowStateOfJoin_holds:Rows.BarrowStateOfJoinUptoSaid:=
 OpenClaim.holds_of_cond 3 Tryz.f3 rfl rfl rfl rfl rfl rfl rfl ⟨rfl,rfl,rfl,rfl,rfl⟩ rfl rfl rfl rfl rfl (by kernel_rfl) Tryz.func3 (by kernel_rfl)
  (of_decide_eq_true (by kernel_rfl)) (by unfold Func.isWrapper;first | (rw [if_pos (by decide +kernel)];kernel_rfl) | (rw [if_neg (by decide +kernel)];exact ⟨rfl,rfl⟩))
  (fun os started H enc _ F=>barrowStateOfJoin.lifted os started H enc F)
#print axioms barrowStateOfJoin_holds
end Go.Proofs.YtcilfelgpmfehaaGreat
