/- YFmP -/
import Derived.Test.YtjffpimfngdggaaGreatFe47
import Derived.Test.YtjffpimfngdggaaGreatFe38
import Derived.JoinedCond
set_option maxRecDepth 100000
namespace Go.Proofs.YtjffpimfngdggaaGreat.compactSeen
open Go.ChangeShapes Go.WideShapes Go.ChangeAt Go.RowKit Go.Joins

theorem lifted (os:Os) (started:os.Started) (H:Type) (enc:TypeId × Value -> H) (F:Stop.Interp) :
  ReturnsInHanded {} Tryz.checked os 5 .any ((Rows.OpenSpec.upto Rows.compactSeenSpec).pre6 enc Tryz.prog Tryz.f5 Rows.compactSeenUptoRow.domain false) (((Rows.OpenSpec.upto Rows.compactSeenSpec).at F).post enc Tryz.prog Tryz.f5 false true false false):=by
 refine returnsInHanded_of_cond (C:=Tryz.checked) (s:=Rows.OpenSpec.upto Rows.compactSeenSpec) (k:=Rows.uptoSmall) rfl own started (by kernel_rfl) Tryz.func5
  (OpenSpec.witness (enc:=enc) (C:=Tryz.checked) (s:=Rows.OpenSpec.upto Rows.compactSeenSpec) (k:=Rows.uptoSmall) rfl false ⟨#[],#[.agg #[.slice none 0 0,.slice none 0 0,.slice none 0 0,.slice none 0 0,.slice none 0 0,.slice none 0 0,.slice none 0 0,.slice none 0 0,.slice none 0 0,.slice none 0 0,.slice none 0 0,.slice none 0 0,.slice none 0 0,.slice none 0 0,.slice none 0 0,.slice none 0 0,.slice none 0 0,.string ⟨#[]⟩]],[]⟩ 8 (by kernel_rfl) (by kernel_rfl) (by kernel_rfl)
   (x:=([.agg [.agg [.nil,.agg [.nil,.nil],.nil],.agg [.nil,.agg [.nil,.nil],.nil],.agg [.nil,.agg [.nil,.nil],.nil],.agg [.nil,.agg [.nil,.nil],.nil],.nil,.lit (.string [])]],[],[])) (by kernel_rfl) rfl (by kernel_rfl)) ?_
 intro W base args ds gs before hval0 hW _ hk _;have CI:∀ (j:Nat) t v,Tryz.f5.params[j]? = some t -> args[j]? = some v -> Value.okWide Tryz.prog W .any base t v:=hval0;have FW:=hW;obtain ⟨p,q,K8,hV,rfl,N3,BU⟩:=hW;have hA:DataW.TrodAll enc Tryz.prog W 0 (fun _=>true) true Tryz.f5.params.toList args.toList ds p:=K8;rw [Tryz.params5] at hA CI;obtain ⟨v0,vs0,d0,ds0,p0,q0,KB,rfl,rfl,h0,r0⟩:=trodAll_cons hA;obtain ⟨rfl,rfl,rfl⟩:=trodAll_nil r0
 obtain rfl:args=#[v0]:=by cases args;simp_all
 obtain ⟨rfl,rfl⟩:=trodVars_none hV;have hb:Rows.uptoBulkAll ([d0]++[]) <= 1048576:=of_decide_eq_true hk;have mF:=h0;obtain ⟨cs0,rfl,Mr⟩:=okWide_struct Tryz.underlying34 (CI 0 34 v0 rfl rfl);obtain ⟨fuel0,KL⟩:=mF
 have sC:(Value.agg cs0).cells=cs0:=by simp [Value.cells]
 rw [sC] at KL;obtain ⟨cc,ecs0,Sc⟩:=zdu KL (Nat.le_trans (zcg _ d0 (by simp)) hb)
 obtain rfl:cs0=CzC cc:=by rw [<- Array.toList_inj];exact ecs0
 clear K8 hval0;simp only [List.append_nil] at FW;have ak:∀ x∈p0,x.block < W.heap.size:=fun x hx=>FW.lt x (by simpa using hx);refine (yl cc W Sc).mono ?_;rintro e W' ⟨rfl,Dn⟩;exact ⟨_,rfl,_,_,_,[],_,[],FW,trodAll_cons_mk (shut_bool Tryz.underlying4 _) trodAll_mk0,(trodAll_cons_mk (Below.trod tB (by kernel_rfl) (of_decide_eq_true (by kernel_rfl)) h0 Dn (fun x hx=>ak x (by simp [hx]))) trodAll_mk0),rfl,Dn.frame _,fun h=>by cases h⟩
end Go.Proofs.YtjffpimfngdggaaGreat.compactSeen
namespace Go.Proofs.YtjffpimfngdggaaGreat
theorem compactSeen_holds:Rows.CompactSeenUptoSaid:=
 OpenClaim.holds_of_cond 5 Tryz.f5 rfl rfl rfl rfl rfl rfl rfl ⟨rfl,rfl,rfl,rfl,rfl⟩ rfl rfl rfl rfl rfl (by kernel_rfl) Tryz.func5 (by kernel_rfl)
  (of_decide_eq_true (by kernel_rfl)) (by unfold Func.isWrapper;first | (rw [if_pos (by decide +kernel)];kernel_rfl) | (rw [if_neg (by decide +kernel)];exact ⟨rfl,rfl⟩))
  (fun os started H enc _ F=>compactSeen.lifted os started H enc F)
#print axioms compactSeen_holds
end Go.Proofs.YtjffpimfngdggaaGreat
