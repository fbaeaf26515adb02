import Derived.Test.YtjffpimfngdggaaGreatFf39
import Derived.JoinedCond
set_option maxRecDepth 100000
namespace Go.Proofs.YtjffpimfngdggaaGreat.compactFates
open Go.ChangeShapes Go.WideShapes Go.ChangeAt Go.RowKit Go.Joins
theorem lifted (os:Os) (started:os.Started) (H:Type) (enc:TypeId × Value -> H) (F:Stop.Interp) :
  ReturnsInHanded {} Tryz.checked os 4 .any ((Rows.OpenSpec.upto Rows.compactFatesSpec).pre6 enc Tryz.prog Tryz.f4 Rows.compactFatesUptoRow.domain false) (((Rows.OpenSpec.upto Rows.compactFatesSpec).at F).post enc Tryz.prog Tryz.f4 false true false false):=by
 refine returnsInHanded_of_cond (C:=Tryz.checked) (s:=Rows.OpenSpec.upto Rows.compactFatesSpec) (k:=Rows.uptoSmall) rfl own started (by kernel_rfl) Tryz.func4
  (OpenSpec.witness (enc:=enc) (C:=Tryz.checked) (s:=Rows.OpenSpec.upto Rows.compactFatesSpec) (k:=Rows.uptoSmall) rfl false ⟨#[],#[.agg #[.slice none 0 0,.slice none 0 0,.slice none 0 0,.slice none 0 0,.slice none 0 0,.slice none 0 0,.slice none 0 0,.slice none 0 0,.slice none 0 0,.slice none 0 0,.slice none 0 0,.slice none 0 0,.slice none 0 0,.slice none 0 0,.slice none 0 0,.slice none 0 0,.slice none 0 0,.string ⟨#[]⟩]],[]⟩ 8 (by kernel_rfl) (by kernel_rfl) (by kernel_rfl)
   (x:=([.agg [.agg [.nil,.agg [.nil,.nil],.nil],.agg [.nil,.agg [.nil,.nil],.nil],.agg [.nil,.agg [.nil,.nil],.nil],.agg [.nil,.agg [.nil,.nil],.nil],.nil,.lit (.string [])]],[],[])) (by kernel_rfl) rfl (by kernel_rfl)) ?_
 intro W base args ds gs before hval0 hW _ hk _;have Er:∀ (j:Nat) t v,Tryz.f4.params[j]? = some t -> args[j]? = some v -> Value.okWide Tryz.prog W .any base t v:=hval0;have GX:=hW;obtain ⟨p,q,KH,hV,rfl,OJ,FN⟩:=hW;have hA:DataW.TrodAll enc Tryz.prog W 0 (fun _=>true) true Tryz.f4.params.toList args.toList ds p:=KH;rw [Tryz.params4] at hA Er;obtain ⟨v0,vs0,d0,ds0,p0,q0,Kg,rfl,rfl,h0,r0⟩:=trodAll_cons hA;obtain ⟨rfl,rfl,rfl⟩:=trodAll_nil r0
 obtain rfl:args=#[v0]:=by cases args;simp_all
 obtain ⟨rfl,rfl⟩:=trodVars_none hV;have hb:Rows.uptoBulkAll ([d0]++[]) <= 1048576:=of_decide_eq_true hk;have mS:=h0;obtain ⟨cs0,rfl,L9⟩:=okWide_struct Tryz.underlying34 (Er 0 34 v0 rfl rfl);obtain ⟨fuel0,KC⟩:=mS
 have uq:(Value.agg cs0).cells=cs0:=by simp [Value.cells]
 rw [uq] at KC;obtain ⟨cc,ecs0,Sc,vo,vn,vc,D,sk,Bz,NL,hvn,NS,ic⟩:=zdZ KC (Nat.le_trans (zcE _ d0 (by simp)) hb)
 obtain rfl:cs0=CzC cc:=by rw [<- Array.toList_inj];exact ecs0
 clear KH hval0;simp only [List.append_nil] at GX;have ak:∀ x∈p0,x.block < W.heap.size:=fun x hx=>GX.lt x (by simpa using hx);refine (wl cc W Sc vo vn vc D sk Bz NL hvn NS ic).mono ?_;rintro e W' ⟨rfl,D9⟩;exact ⟨_,rfl,_,_,_,[],_,[],GX,trodAll_cons_mk (shut_bool Tryz.underlying4 _) trodAll_mk0,(trodAll_cons_mk (Below.trod uO (by kernel_rfl) (of_decide_eq_true (by kernel_rfl)) h0 D9 (fun x hx=>ak x (by simp [hx]))) trodAll_mk0),rfl,D9.frame _,fun h=>by cases h⟩
end Go.Proofs.YtjffpimfngdggaaGreat.compactFates
namespace Go.Proofs.YtjffpimfngdggaaGreat
theorem compactFates_holds:Rows.CompactFatesUptoSaid:=
 OpenClaim.holds_of_cond 4 Tryz.f4 rfl rfl rfl rfl rfl rfl rfl ⟨rfl,rfl,rfl,rfl,rfl⟩ rfl rfl rfl rfl rfl (by kernel_rfl) Tryz.func4 (by kernel_rfl)
  (of_decide_eq_true (by kernel_rfl)) (by unfold Func.isWrapper;first | (rw [if_pos (by decide +kernel)];kernel_rfl) | (rw [if_neg (by decide +kernel)];exact ⟨rfl,rfl⟩))
  (fun os started H enc _ F=>compactFates.lifted os started H enc F)
#print axioms compactFates_holds
end Go.Proofs.YtjffpimfngdggaaGreat
