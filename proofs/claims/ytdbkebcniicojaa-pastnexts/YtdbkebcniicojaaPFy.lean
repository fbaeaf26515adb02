/- fixed: the walk. -/
import Derived.Test.YtdbkebcniicojaaPFx
import Derived.Test.YtdbkebcniicojaaPSm
namespace Go.Proofs.Ytdbkebcniicojaa
open Go.RowKit
attribute [local go_sem ↓] ldP_eq stP_eq
attribute [local go_sem] zero_PC cells_PV fold_PC PC_size zero_SC build_SC cells_SV fold_SC SC_size

theorem build_PC' (vo : Option Addr) (vn vc : Nat) (co : Option Addr) (cn cc : Nat) : ((PC pv0).setIfInBounds 0 (.slice vo vn vc)).setIfInBounds 1 (.slice co cn cc) = #[.slice vo vn vc, .slice co cn cc] := rfl
attribute [local go_sem] build_PC'
theorem vlit3 (w : World) (x y z : Int) (C : Array Value) (hC : C = #[.int .i64 x, .int .i64 y, .int .i64 z]) (T : TypeId) : V.Src (w.alloc (.cells C T)) (some ⟨w.heap.size, 0, none⟩) 3 3 [x, y, z] := by
  subst hC
  refine ⟨rfl, fun h => (by cases h), fun ad h t ht => ?_⟩
  obtain rfl := Option.some.inj h
  rw [Addr.add_lit, Nat.zero_add, World.cell?_alloc_new]
  have : t = 0 ∨ t = 1 ∨ t = 2 := by omega
  rcases this with rfl | rfl | rfl <;> rfl
theorem vlit1 (w : World) (x : Int) (C : Array Value) (hC : C = #[.int .i64 x]) (T : TypeId) : V.Src (w.alloc (.cells C T)) (some ⟨w.heap.size, 0, none⟩) 1 1 [x] := by
  subst hC
  refine ⟨rfl, fun h => (by cases h), fun ad h t ht => ?_⟩
  obtain rfl := Option.some.inj h
  rw [Addr.add_lit, Nat.zero_add, World.cell?_alloc_new]
  obtain rfl : t = 0 := by omega
  rfl
def fxP (g : Nat) : Pv := ⟨some ⟨g, 0, none⟩, 3, 3, some ⟨g + 1, 0, none⟩, 2, 2, fxA⟩
def fxQ (g : Nat) : Pv := ⟨some ⟨g, 0, none⟩, 1, 1, some ⟨g + 1, 0, none⟩, 1, 1, fxB⟩
theorem fxP_src (w : World) (C D : Array Value) (hC : C = #[.int .i64 2, .int .i64 0, .int .i64 0]) (hD : D = (scs [⟨0, 3, 4⟩, ⟨1, 2, 2⟩]).toArray) (T U : TypeId) : PSrc ((w.alloc (.cells C T)).alloc (.cells D U)) (fxP w.heap.size) := by
  have h := lit_ssrc (w.alloc (.cells C T)) [⟨0, 3, 4⟩, ⟨1, 2, 2⟩] D hD U 2 rfl (by omega)
  rw [World.size_alloc] at h
  exact ⟨(vlit3 w 2 0 0 C hC T).below (below_new _ _), h, by simp [fxP]⟩
theorem fxQ_src (w : World) (C D : Array Value) (hC : C = #[.int .i64 4]) (hD : D = (scs [⟨1, 2, 2⟩]).toArray) (T U : TypeId) : PSrc ((w.alloc (.cells C T)).alloc (.cells D U)) (fxQ w.heap.size) := by
  have h := lit_ssrc (w.alloc (.cells C T)) [⟨1, 2, 2⟩] D hD U 1 rfl (by omega)
  rw [World.size_alloc] at h
  exact ⟨(vlit1 w 4 C hC T).below (below_new _ _), h, by simp [fxQ]⟩
set_option maxRecDepth 100000 in
set_option maxHeartbeats 1000000 in
theorem fixed_true (w : World) : Calls Try.prog 6 #[] w fun e w' => e = .returned (.bool true) ∧ Below w.heap.size w w' := by
  go_enter Try.func6, Try.ntmps6
  go_wp2_with fail
  have b0 := below_new w (.cells (SC ⟨2, 0, 0⟩) 3)
  refine (pastNorm_any (fxP w.heap.size) _ (fxP_src w _ _ rfl rfl 3 50)).mono ?_
  rintro e w1 ⟨p, rfl, S1, _, b1, c1⟩
  have hB1 : Below w.heap.size w w1 := b0.trans (((below_new _ _).trans (b1.mono (below_new _ _).size)).mono b0.size)
  have he : p.P = fxB := CanonOf.unique c1 fxA_canon (fun _ _ _ => Iff.rfl)
  obtain ⟨w2, hst, PB, b2, z2⟩ := madeP w1 p w1.heap.size rfl
  have HE := hide he
  have HS2 := hide (S1.below b2)
  have HB2 := hide (hB1.trans (b2.mono hB1.size))
  have l1 := run_ldP PB.at
  have HPB := hide PB
  clear S1 b1 c1 b0 hB1 he PB b2 z2
  go_wp2_with fail
  have b3 : Below w2.heap.size w2 ((w2.alloc (.cells #[.int .i64 4] 3)).alloc (.cells (Array.foldl (fun cs x => cs.setIfInBounds x.snd x.fst) #[(SC sn0)[0]!, (SC sn0)[1]!, (SC sn0)[2]!] (SC ⟨1, 2, 2⟩).zipIdx 0 3) 50)) := (below_new w2 _).trans ((below_new _ _).mono (below_new _ _).size)
  refine (samePast_any p (fxQ w2.heap.size) _ (HS2.out.below b3) (fxQ_src w2 _ _ rfl rfl 3 50)).mono ?_
  rintro e w4 ⟨x, rfl, hx, b4⟩
  obtain rfl : x = true := hx.2 HE.out
  have b5 := b3.trans (b4.mono b3.size)
  have HS4 := hide (HS2.out.below b5)
  have HB4 := hide (HB2.out.trans (b5.mono HB2.out.size))
  have HPB4 := hide (HPB.out.below b5)
  have l2 := run_ldP HPB4.out.at
  clear l1 hst HPB HS2 b3 b4 b5 hx
  go_wp2_with fail
  refine (hasVec_true p 0 4 _ HS4.out (by decide) (by decide) (by decide) (by rw [HE.out]; decide)).mono ?_
  rintro e w5 ⟨rfl, b6⟩
  have HS5 := hide (HS4.out.below b6)
  have HB5 := hide (HB4.out.trans (b6.mono HB4.out.size))
  have l3 := run_ldP (HPB4.out.below b6).at
  clear l2 HPB4 HS4 b6
  go_wp2_with fail
  refine (pastSize_any p _ HS5.out).mono ?_
  rintro e w6 ⟨z, rfl, hz, b7⟩
  obtain rfl : 5 = z := by
    have h := szP_of hz
    rw [HE.out] at h
    exact (h.unique fxB_size (fun _ _ _ => Iff.rfl)).symm
  have HB6 := hide (HB5.out.trans (b7.mono HB5.out.size))
  clear l3 HS5 b7 hz
  go_wp2_with fail
  go_ret
  exact ⟨rfl, HB6.out⟩
end Go.Proofs.Ytdbkebcniicojaa
