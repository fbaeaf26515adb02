/- past's Put of a right dot: its contract. -/
import Derived.Test.YtdbkebcniicojaaPOf
import Derived.Test.YtdbkebcniicojaaPLp
namespace Go.Proofs.Ytdbkebcniicojaa
open Go.RowKit
attribute [local go_sem ↓] ldP_eq stP_eq ldD_eq stD_eq
attribute [local go_sem] zero_PC cells_PV fold_PC PC_size fold_PC1 fold_PC2 cells_RV RC_size zero_RC fold_RC

theorem PBox.off2 {W : World} {g g' : Nat} {p : Pv} {cs : Array Value} (h : PBox W g p) (hne : g ≠ g') : PBox (W.setRow g' cs) g p := (setRow_other _ _ _ _ hne).trans h
theorem Box.off2 {W : World} {g g' : Nat} {T : TypeId} {r : Rn} {cs : Array Value} (h : Box W g T r) (hne : g ≠ g') : Box (W.setRow g' cs) g T r := (setRow_other _ _ _ _ hne).trans h
theorem put_isP {a q : Pv} {P : Pst} {y : Nat} {num : Int} (hq : CanonOf (dot1 1 y num) q.P) (h : CanonOf (runsOf [a, q]) P) (h1 : 1 ≤ num) (h9 : num ≤ 1000000000) : IsP (mOr (mP a.P) (fun r n => r = y ∧ n = num)) P := by
  refine (isP_join2 h).congr (fun r hr n => or_congr Iff.rfl ?_)
  refine (canon_mem hq r hr n).trans ?_
  unfold dot1
  rw [if_neg (by omega)]
  by_cases e : r = y
  · rw [if_pos e, mem_one]
    simp only
    constructor
    · intro g; exact ⟨e, by omega⟩
    · intro g; omega
  · rw [if_neg e]
    exact ⟨fun g => absurd g (mem_nil n), fun g => absurd g.1 e⟩
set_option maxRecDepth 100000 in
set_option maxHeartbeats 4000000 in
theorem pastPut_any (a : Pv) (y : Nat) (hy : y < 16) (num : Int) (h1 : 1 ≤ num) (h9 : num ≤ 1000000000) (w : World) (hA : PSrc w a) (hL : a.P.cloud.length ≤ 5864062014805) :
    Calls Try.prog 25 #[PV a, RV ⟨(y : Int), num⟩] w fun e w' => GivesP w w' e (IsP (mOr (mP a.P) (fun r n => r = y ∧ n = num))) := by
  have b1 := below_new w (.cells (PC a) 25)
  have b2 := below_new (w.alloc (.cells (PC a) 25)) (.cells (RC ⟨(y : Int), num⟩) 40)
  have b3 := below_new ((w.alloc (.cells (PC a) 25)).alloc (.cells (RC ⟨(y : Int), num⟩) 40)) (.cells (PC pv0) 25)
  have X2 := box_new (w.alloc (.cells (PC a) 25)) 40 ⟨(y : Int), num⟩
  have X3 := pbox_new ((w.alloc (.cells (PC a) 25)).alloc (.cells (RC ⟨(y : Int), num⟩) 40)) pv0
  simp only [World.size_alloc] at X2 X3
  have HXA := hide (((pbox_new w a).below b2).below b3)
  have HXD := hide (X2.below b3)
  have HPR := hide X3
  have HBK := hide (b1.trans ((b2.trans (b3.mono b2.size)).mono b1.size))
  have HA := hide (hA.below HBK.out)
  have HAL := hide hL
  clear b1 b2 b3 X2 X3 hA hL
  obtain ⟨wk, hwk⟩ : ∃ wk, ((w.alloc (.cells (PC a) 25)).alloc (.cells (RC ⟨(y : Int), num⟩) 40)).alloc (.cells (PC pv0) 25) = wk := ⟨_, rfl⟩
  rw [hwk] at HXA HXD HPR HBK HA
  have HZ : Hid (wk.heap.size = w.heap.size + 3) := by show _ = _; rw [← hwk]; simp
  have HSW : Hid (∀ W : World, Below wk.heap.size wk W → (ldP (.pointer (some ⟨w.heap.size, 0, none⟩))).run Try.prog W = .ok (PV a) W ∧ (ldD (.pointer (some ⟨w.heap.size + 1, 0, none⟩))).run Try.prog W = .ok (RV ⟨(y : Int), num⟩) W) := fun W hb => ⟨run_ldP (HXA.out.below hb).at, run_ldD (HXD.out.below hb).at⟩
  go_enter Try.func25, Try.ntmps25
  go_wp2_with fail
  clear hwk
  refine wp_region_held_drew (S := fun W => (ldP (.pointer (some ⟨w.heap.size, 0, none⟩))).run Try.prog W = .ok (PV a) W ∧ (ldD (.pointer (some ⟨w.heap.size + 1, 0, none⟩))).run Try.prog W = .ok (RV ⟨(y : Int), num⟩) W) (by kernel_rfl) (HSW.out _ (below_drew1 wk)) (fun hHeld => ?_)
  refine wpAnyH_take (i := 0) (oi := { dst := some 5, op := Op.load 25 (Operand.tmp 2), type := 25, pos := "past.go:102", after := #[], guard := none }) (v := ?_) rfl (by kernel_rfl) (by kernel_rfl) (by kernel_rfl) (fun _ _ _ h => h) (Or.inl ⟨by rfl, ?_⟩) (by assumption) ?_
  rotate_left
  · (intro w hSw; (try dsimp only at hSw); go_simp); first | done | with_reducible rfl
  simp only [Act.put, List.setIfInBounds_toArray, List.set_cons_zero, List.set_cons_succ]
  refine wpAnyH_take (i := 1) (oi := { dst := some 6, op := Op.load 40 (Operand.tmp 3), type := 40, pos := "past.go:102", after := #[], guard := none }) (v := ?_) rfl (by kernel_rfl) (by kernel_rfl) (by kernel_rfl) (fun _ _ _ h => h) (Or.inl ⟨by rfl, ?_⟩) (by assumption) ?_
  rotate_left
  · (intro w hSw; (try dsimp only at hSw); go_simp); first | done | with_reducible rfl
  simp only [Act.put, List.setIfInBounds_toArray, List.set_cons_zero, List.set_cons_succ]
  refine wpAnyH_ready (rs := [2]) (by kernel_rfl) (by simp) ?_
  refine AllReadyH.cons rfl (fun K hK => ?_) ?_
  rotate_left
  · exact AllReadyH.nil
  go_simp
  have bl := below_new wk.drew (.cells (RC ⟨(y : Int), num⟩) 40)
  have HB2 := hide ((below_drew1 wk).trans bl)
  have HL2 := hide (lit_rsrc wk.drew [⟨(y : Int), num⟩] (RC ⟨(y : Int), num⟩) rfl 40 1 rfl (by omega))
  clear bl
  refine hK.out _ _ (HSW.out _ HB2.out) (fun hHeld => ?_)
  clear hK K
  refine wpAnyH_ready (rs := [3]) (by kernel_rfl) (by simp) ?_
  refine AllReadyH.cons rfl (fun K hK => ?_) ?_
  rotate_left
  · exact AllReadyH.nil
  go_simp
  go_wp2_with fail
  refine (of1_any _ y hy num h1 h9 _ HL2.out).mono ?_
  rintro e w3 ⟨q, rfl, S3, n3, b3, c3⟩
  have HB3 := hide (HB2.out.trans (b3.mono HB2.out.size))
  have HS3 := hide S3
  have HQ3 := hide c3
  clear S3 n3 b3 c3
  refine hK.out _ _ (HSW.out _ HB3.out) (fun hHeld => ?_)
  clear hK K
  refine wpAnyH_ready (rs := [4]) (by kernel_rfl) (by simp) ?_
  refine AllReadyH.cons rfl (fun K hK => ?_) ?_
  rotate_left
  · exact AllReadyH.nil
  go_simp
  have b4 := below_new w3 (.cells (pcs [a, q]).toArray 25)
  have HB4 := hide (HB3.out.trans (b4.mono HB3.out.size))
  have HR4 := hide (prow_two w3 a q (HA.out.below HB3.out) HS3.out)
  have HWT : Hid (wt [a, q] ≤ 8796093022207) := by have h := (canon_len HQ3.out).1; have h2 := HAL.out; simp only [wt]; show _ ≤ _; omega
  clear b4
  refine hK.out _ _ (HSW.out _ HB4.out) (fun hHeld => ?_)
  clear hK K
  refine wpAnyH_ready (rs := [5]) (by kernel_rfl) (by simp) ?_
  refine AllReadyH.cons rfl (fun K hK => ?_) ?_
  rotate_left
  · exact AllReadyH.nil
  go_simp
  go_wp2_with fail
  refine (pastJoin_any _ 2 2 [a, q] _ HR4.out HWT.out (by omega)).mono ?_
  rintro e w5 ⟨p, rfl, S5, n5, b5, c5⟩
  have bb := HB4.out.trans (b5.mono HB4.out.size)
  have HB5 := hide bb
  obtain ⟨s1, e1, e2, e3, e4⟩ := past_end (w := w) (HPR.out.below bb) S5 (n5.mono (by have h := HB4.out.size; have h2 := HZ.out; omega)) (HBK.out.trans (bb.mono HBK.out.size)) (by omega)
  have HE1 := hide e1
  have HE2 : Hid (GivesP w (w5.setRow (w.heap.size + 1 + 1) (PC p)) (.returned (PV p)) (IsP (mOr (mP a.P) (fun r n => r = y ∧ n = num)))) := ⟨p, rfl, e2, e3, e4, put_isP HQ3.out c5 h1 h9⟩
  clear S5 n5 b5 c5 e1 e2 e3 e4 bb
  refine hK.out _ _ (HSW.out _ HB5.out) (fun hHeld => ?_)
  clear hK K
  refine wpAnyH_ready (rs := [6]) (by kernel_rfl) (by simp) ?_
  refine AllReadyH.cons rfl (fun K hK => ?_) ?_
  rotate_left
  · exact AllReadyH.nil
  go_simp
  refine hK.out _ _ ⟨run_ldP ((HXA.out.below HB5.out).off2 (by omega)).at, run_ldD ((HXD.out.below HB5.out).off2 (by omega)).at⟩ (fun hHeld => ?_)
  clear hK K
  refine wpAnyH_done (by kernel_rfl) ?_ _
  clear hHeld
  go_wp2_with fail
  exact bodyPost_ret (v := PV p) (resP Try.results25 rfl HE1.out) rfl HE2.out
end Go.Proofs.Ytdbkebcniicojaa
