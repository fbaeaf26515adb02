/- YDtP -/
import Derived.Test.YtjeilkenjdnafaaGreatDk45
import Derived.Test.YtjeilkenjdnafaaGreatDk44
import Derived.JoinedCond
set_option maxRecDepth 100000
namespace Go.Proofs.YtjeilkenjdnafaaGreat.digestLacks
open Go.ChangeShapes Go.WideShapes Go.ChangeAt Go.RowKit Go.Joins

theorem lifted (os:Os) (started:os.Started) (H:Type) (enc:TypeId × Value -> H) (F:Stop.Interp) :
  ReturnsInHanded {} Tryz.checked os 4 .any ((Rows.OpenSpec.upto Rows.digestLacksSpec).pre6 enc Tryz.prog Tryz.f4 Rows.digestLacksUptoRow.domain false) (((Rows.OpenSpec.upto Rows.digestLacksSpec).at F).post enc Tryz.prog Tryz.f4 false true false false):=by
 refine returnsInHanded_of_cond (C:=Tryz.checked) (s:=Rows.OpenSpec.upto Rows.digestLacksSpec) (k:=Rows.uptoSmall) rfl own started (by kernel_rfl) Tryz.func4
  (OpenSpec.witness (enc:=enc) (C:=Tryz.checked) (s:=Rows.OpenSpec.upto Rows.digestLacksSpec) (k:=Rows.uptoSmall) rfl false ⟨#[],#[.agg #[.slice none 0 0,.slice none 0 0,.slice none 0 0,.slice none 0 0],.agg #[.slice none 0 0,.slice none 0 0,.slice none 0 0,.slice none 0 0],.agg #[.slice none 0 0,.slice none 0 0,.slice none 0 0,.slice none 0 0]],[]⟩ 8 (by kernel_rfl) (by kernel_rfl) (by kernel_rfl)
   (x:=([.agg [.nil,.agg [.nil,.nil],.nil],.agg [.nil,.agg [.nil,.nil],.nil],.agg [.agg [.nil,.nil],.agg [.nil,.nil]]],[],[])) (by kernel_rfl) rfl (by kernel_rfl)) ?_
 intro W base args ds gs before hval0 hW _ hk _;have hval:∀ (j:Nat) t v,Tryz.f4.params[j]? = some t -> args[j]? = some v -> Value.okWide Tryz.prog W .any base t v:=hval0;have hW':=hW;obtain ⟨p,q,hA0,hV,rfl,hfz,hnd⟩:=hW;have hA:DataW.TrodAll enc Tryz.prog W 0 (fun _=>true) true Tryz.f4.params.toList args.toList ds p:=hA0;rw [Tryz.params4] at hA hval;obtain ⟨v0,vs0,d0,ds0,p0,q0,hargs,rfl,rfl,h0,r0⟩:=trodAll_cons hA;obtain ⟨v1,vs1,d1,ds1,p1,q1,rfl,rfl,rfl,h1,r1⟩:=trodAll_cons r0;obtain ⟨v2,vs2,d2,ds2,p2,q2,rfl,rfl,rfl,h2,r2⟩:=trodAll_cons r1;obtain ⟨rfl,rfl,rfl⟩:=trodAll_nil r2
 obtain rfl:args=#[v0,v1,v2]:=by cases args;simp_all
 obtain ⟨rfl,rfl⟩:=trodVars_none hV;have hb:Rows.uptoBulkAll ([d0,d1,d2]++[]) <= 1048576:=of_decide_eq_true hk;have h0':=h0;obtain ⟨cs0,rfl,hsz0⟩:=okWide_struct Tryz.underlying29 (hval 0 29 v0 rfl rfl);obtain ⟨fuel0,hf0⟩:=h0'
 have hcells0:(Value.agg cs0).cells=cs0:=by simp [Value.cells]
 rw [hcells0] at hf0;obtain ⟨ff,ecs0,Sf⟩:=open_factsU hf0 (Nat.le_trans (bulk_at _ d0 (by simp)) hb)
 obtain rfl:cs0=FaC (mkF ff):=by rw [<- Array.toList_inj];exact ecs0
 have h1':=h1;obtain ⟨cs1,rfl,hsz1⟩:=okWide_struct Tryz.underlying31 (hval 1 31 v1 rfl rfl);obtain ⟨fuel1,hf1⟩:=h1'
 have hcells1:(Value.agg cs1).cells=cs1:=by simp [Value.cells]
 rw [hcells1] at hf1;obtain ⟨fs,ecs1,Ss⟩:=open_swotU hf1 (Nat.le_trans (bulk_at _ d1 (by simp)) hb)
 obtain rfl:cs1=FaC (mkF fs):=by rw [<- Array.toList_inj];exact ecs1
 have h2':=h2;obtain ⟨cs2,rfl,hsz2⟩:=okWide_struct Tryz.underlying33 (hval 2 33 v2 rfl rfl);obtain ⟨fuel2,hf2⟩:=h2'
 have hcells2:(Value.agg cs2).cells=cs2:=by simp [Value.cells]
 rw [hcells2] at hf2;obtain ⟨fd,ecs2,Sd⟩:=open_digestU hf2 (Nat.le_trans (bulk_at _ d2 (by simp)) hb)
 obtain rfl:cs2=DiC (mkD fd):=by rw [<- Array.toList_inj];exact ecs2
 clear hA0 hval0;simp only [List.append_nil] at hW';have hlt:∀ x∈p0++(p1++(p2)),x.block < W.heap.size:=fun x hx=>hW'.lt x (by simpa using hx);refine (digestLacks_u ff fs fd W Sf Ss Sd).mono ?_;rintro e W' ⟨rfl,hnx⟩;exact ⟨_,rfl,_,_,_,[],_,[],hW',trodAll_cons_mk (shut_bool Tryz.underlying4 _) trodAll_mk0,(trodAll_cons_mk (Below.trod laidOut (by kernel_rfl) (of_decide_eq_true (by kernel_rfl)) h0 hnx (fun x hx=>hlt x (by simp [hx]))) (trodAll_cons_mk (Below.trod laidOut (by kernel_rfl) (of_decide_eq_true (by kernel_rfl)) h1 hnx (fun x hx=>hlt x (by simp [hx]))) (trodAll_cons_mk (Below.trod laidOut (by kernel_rfl) (of_decide_eq_true (by kernel_rfl)) h2 hnx (fun x hx=>hlt x (by simp [hx]))) trodAll_mk0))),rfl,hnx.frame _,fun h=>by cases h⟩
end Go.Proofs.YtjeilkenjdnafaaGreat.digestLacks
namespace Go.Proofs.YtjeilkenjdnafaaGreat
theorem digestLacks_holds:Rows.DigestLacksUptoSaid:=
 OpenClaim.holds_of_cond 4 Tryz.f4 rfl rfl rfl rfl rfl rfl rfl ⟨rfl,rfl,rfl,rfl,rfl⟩ rfl rfl rfl rfl rfl (by kernel_rfl) Tryz.func4 (by kernel_rfl)
  (of_decide_eq_true (by kernel_rfl)) (by unfold Func.isWrapper;first | (rw [if_pos (by decide +kernel)];kernel_rfl) | (rw [if_neg (by decide +kernel)];exact ⟨rfl,rfl⟩))
  (fun os started H enc _ F=>digestLacks.lifted os started H enc F)
#print axioms digestLacks_holds
end Go.Proofs.YtjeilkenjdnafaaGreat
