/- YFdP -/
import Derived.Test.YtjffpimfngdggaaGreatFs46
import Derived.Test.YtjffpimfngdggaaGreatFs38
import Derived.JoinedCond
set_option maxRecDepth 100000
namespace Go.Proofs.YtjffpimfngdggaaGreat.compactStates
open Go.ChangeShapes Go.WideShapes Go.ChangeAt Go.RowKit Go.Joins

theorem lifted (os:Os) (started:os.Started) (H:Type) (enc:TypeId × Value -> H) (F:Stop.Interp) :
  ReturnsInHanded {} Tryz.checked os 3 .any ((Rows.OpenSpec.upto Rows.compactStatesSpec).pre6 enc Tryz.prog Tryz.f3 Rows.compactStatesUptoRow.domain false) (((Rows.OpenSpec.upto Rows.compactStatesSpec).at F).post enc Tryz.prog Tryz.f3 false true false false):=by
 refine returnsInHanded_of_cond (C:=Tryz.checked) (s:=Rows.OpenSpec.upto Rows.compactStatesSpec) (k:=Rows.uptoSmall) rfl own started (by kernel_rfl) Tryz.func3
  (OpenSpec.witness (enc:=enc) (C:=Tryz.checked) (s:=Rows.OpenSpec.upto Rows.compactStatesSpec) (k:=Rows.uptoSmall) rfl false ⟨#[],#[.agg #[.slice none 0 0,.slice none 0 0,.slice none 0 0,.slice none 0 0,.slice none 0 0,.slice none 0 0,.slice none 0 0,.slice none 0 0,.slice none 0 0,.slice none 0 0,.slice none 0 0,.slice none 0 0,.slice none 0 0,.slice none 0 0,.slice none 0 0,.slice none 0 0,.slice none 0 0,.string ⟨#[]⟩]],[]⟩ 8 (by kernel_rfl) (by kernel_rfl) (by kernel_rfl)
   (x:=([.agg [.agg [.nil,.agg [.nil,.nil],.nil],.agg [.nil,.agg [.nil,.nil],.nil],.agg [.nil,.agg [.nil,.nil],.nil],.agg [.nil,.agg [.nil,.nil],.nil],.nil,.lit (.string [])]],[],[])) (by kernel_rfl) rfl (by kernel_rfl)) ?_
 intro W base args ds gs before hval0 hW _ hk _;have hval:∀ (j:Nat) t v,Tryz.f3.params[j]? = some t -> args[j]? = some v -> Value.okWide Tryz.prog W .any base t v:=hval0;have hW':=hW;obtain ⟨p,q,hA0,hV,rfl,hfz,hnd⟩:=hW;have hA:DataW.TrodAll enc Tryz.prog W 0 (fun _=>true) true Tryz.f3.params.toList args.toList ds p:=hA0;rw [Tryz.params3] at hA hval;obtain ⟨v0,vs0,d0,ds0,p0,q0,hargs,rfl,rfl,h0,r0⟩:=trodAll_cons hA;obtain ⟨rfl,rfl,rfl⟩:=trodAll_nil r0
 obtain rfl:args=#[v0]:=by cases args;simp_all
 obtain ⟨rfl,rfl⟩:=trodVars_none hV;have hb:Rows.uptoBulkAll ([d0]++[]) <= 1048576:=of_decide_eq_true hk;have h0':=h0;obtain ⟨cs0,rfl,hsz0⟩:=okWide_struct Tryz.underlying34 (hval 0 34 v0 rfl rfl);obtain ⟨fuel0,hf0⟩:=h0'
 have hcells0:(Value.agg cs0).cells=cs0:=by simp [Value.cells]
 rw [hcells0] at hf0;obtain ⟨cc,ecs0,Sc⟩:=zdF hf0 (Nat.le_trans (zcl _ d0 (by simp)) hb)
 obtain rfl:cs0=CzC cc:=by rw [<- Array.toList_inj];exact ecs0
 clear hA0 hval0;simp only [List.append_nil] at hW';have hlt:∀ x∈p0,x.block < W.heap.size:=fun x hx=>hW'.lt x (by simpa using hx);refine (vL cc W Sc).mono ?_;rintro e W' ⟨rfl,hnx⟩;exact ⟨_,rfl,_,_,_,[],_,[],hW',trodAll_cons_mk (shut_bool Tryz.underlying4 _) trodAll_mk0,(trodAll_cons_mk (Below.trod laidOut (by kernel_rfl) (of_decide_eq_true (by kernel_rfl)) h0 hnx (fun x hx=>hlt x (by simp [hx]))) trodAll_mk0),rfl,hnx.frame _,fun h=>by cases h⟩
end Go.Proofs.YtjffpimfngdggaaGreat.compactStates
namespace Go.Proofs.YtjffpimfngdggaaGreat
theorem compactStates_holds:Rows.CompactStatesUptoSaid:=
 OpenClaim.holds_of_cond 3 Tryz.f3 rfl rfl rfl rfl rfl rfl rfl ⟨rfl,rfl,rfl,rfl,rfl⟩ rfl rfl rfl rfl rfl (by kernel_rfl) Tryz.func3 (by kernel_rfl)
  (of_decide_eq_true (by kernel_rfl)) (by unfold Func.isWrapper;first | (rw [if_pos (by decide +kernel)];kernel_rfl) | (rw [if_neg (by decide +kernel)];exact ⟨rfl,rfl⟩))
  (fun os started H enc _ F=>compactStates.lifted os started H enc F)
#print axioms compactStates_holds
end Go.Proofs.YtjffpimfngdggaaGreat
