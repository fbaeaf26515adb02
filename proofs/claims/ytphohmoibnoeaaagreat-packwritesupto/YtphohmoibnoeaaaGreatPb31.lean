/- FRp -/
import Derived.Test.YtphohmoibnoeaaaGreatTk
import Derived.Test.YtphohmoibnoeaaaGreatPb25
namespace Go.Proofs.YtphohmoibnoeaaaGreat
open Go.RowKit
attribute [local go_sem ↓] ldP_eq stP_eq
attribute [local go_sem] cells_PV PC_size
variable {w w' : World} {g : Nat} {Z : List Int} {B : Option Nat}

def PastP (w w' : World) (g : Nat) (B : Option Nat) (o : Option (Pst × List Int)) (e : Ending) : Prop :=
 (o = none ∧ e = .panicked (U.ups g) ∧ GaveE w w' g) ∨ ∃ P R vo vc co cc, o = some (P, R) ∧ e = .returned (PV ⟨vo, P.vec.length, vc, co, P.cloud.length, cc, P⟩) ∧ RB w' g R B ∧ U.Kg w w' g ∧ I.BR w' vo P.vec.length vc P.vec ∧ J.BR w' co P.cloud.length cc P.cloud ∧ (∀ k, U.blk vo = some k → w.heap.size ≤ k) ∧ ∀ k, U.blk co = some k → w.heap.size ≤ k
theorem rdVec_bd : ∀ (n : Nat) {Z V R : List Int}, rdVec n Z = some (V, R) → ∀ k, 0 ≤ trl V k ∧ trl V k ≤ 1000000000 := fun n => by
 have key : ∀ (n : Nat) {Z V R : List Int}, rdVec n Z = some (V, R) → ∀ x ∈ V, 0 ≤ x ∧ x ≤ 1000000000 := fun n => by
  induction n with
  | zero =>
   intro Z V R h x hx
   simp only [rdVec, Option.some.injEq, Prod.mk.injEq] at h
   rw [← h.1] at hx
   cases hx
  | succ n ih =>
   intro Z V R h x hx
   rw [rdVec] at h
   cases h1 : U.pNum 1000000000 Z with
   | none => rw [h1] at h; cases h
   | some y =>
    obtain ⟨v, Z1⟩ := y
    rw [h1] at h
    simp only at h
    have l1 := pNum_le h1
    cases h2 : rdVec n Z1 with
    | none => rw [h2] at h; cases h
    | some y =>
     obtain ⟨W, R'⟩ := y
     rw [h2] at h
     simp only [Option.some.injEq, Prod.mk.injEq] at h
     rw [← h.1] at hx
     rcases List.mem_cons.1 hx with rfl | hx
     ·omega
     ·exact ih h2 x hx
 intro Z V R h k
 have hk := key n h
 show 0 ≤ V.getD k 0 ∧ V.getD k 0 ≤ 1000000000
 rw [List.getD_eq_getElem?_getD]
 by_cases ht : k < V.length
 ·rw [List.getElem?_eq_getElem ht]; exact hk _ (List.getElem_mem ht)
 ·rw [List.getElem?_eq_none (Nat.le_of_not_lt ht)]; exact ⟨by decide, by decide⟩
theorem pCnt_le {each : Int} {v : Nat} {Z Z1 : List Int} (h : U.pCnt each Z = some (v, Z1)) : v ≤ 9223372036854775807 := by
 unfold U.pCnt at h
 split at h
 ·simp only [Option.some.injEq, Prod.mk.injEq] at h
  have := U.nmV_le Z
  omega
 ·cases h
def rF (g b1 : Nat) : List (Nat × Obj) := [(b1, .cells #[U.ptr g] 84), (b1 + 1, .cells #[.slice none 0 0, .slice none 0 0] 25)]
set_option maxRecDepth 100000 in
set_option maxHeartbeats 3200000 in
theorem rpast_any (R : RB w g Z B) (hB : ∀ k, B = some k → k < w.heap.size) : Calls Tryz.prog 45 #[.agg #[U.ptr g]] w fun e w' => PastP w w' g B (rdPast Z) e := by
 obtain ⟨b1, hb1⟩ : ∃ b1, w.heap.size = b1 := ⟨_, rfl⟩
 have n1 := U.below_new w (.cells #[U.ptr g] 84)
 have x1 := heap_alloc_new w (.cells #[U.ptr g] 84)
 have s1 : (w.alloc (.cells #[U.ptr g] 84)).heap.size = b1 + 1 := by rw [← hb1]; simp
 obtain ⟨W1, hW1⟩ : ∃ W1, w.alloc (.cells #[U.ptr g] 84) = W1 := ⟨_, rfl⟩
 rw [hW1] at n1 x1 s1
 have n2 := U.below_new W1 (.cells #[.slice none 0 0, .slice none 0 0] 25)
 have x2 := heap_alloc_new W1 (.cells #[.slice none 0 0, .slice none 0 0] 25)
 have s2 : (W1.alloc (.cells #[.slice none 0 0, .slice none 0 0] 25)).heap.size = b1 + 2 := by simp [s1]
 obtain ⟨W2, hW2⟩ : ∃ W2, W1.alloc (.cells #[.slice none 0 0, .slice none 0 0] 25) = W2 := ⟨_, rfl⟩
 rw [hW2] at n2 x2 s2
 have P0 := RP.start (F := rF g b1) R hB (n1.trans (n2.mono n1.size)) (fun x hx => by
  rcases List.mem_cons.1 hx with rfl | hx
  ·exact ⟨by rw [hb1] at x1; exact (n2.block b1 (by omega)).trans x1, by show _ ≤ b1; omega⟩
  ·obtain rfl := List.mem_singleton.1 hx
   exact ⟨by rw [s1] at x2; exact x2, by show _ ≤ b1 + 1; omega⟩)
 obtain ⟨W3, hW3⟩ : ∃ W3, W2.alloc (.cells #[.slice none 0 0, .slice none 0 0] 25) = W3 := ⟨_, rfl⟩
 rw [hW3, s2] at P0
 have HP := hide P0
 have HG := hide R.lt
 have c1 := box_cell (P0.keep (b1, .cells #[U.ptr g] 84) List.mem_cons_self).1
 simp only at c1
 clear P0 n1 n2 x1 x2 R hB
 go_enter Tryz.func45, Tryz.ntmps45
 go_wp2_with fail
 clear hW1 hW2 hW3 s1 s2
 refine (num_p HP.out.r 16).mono ?_
 rintro e W4 (⟨hn, rfl, hg⟩ | ⟨N, Z0, hs, rfl, R4, K4⟩)
 ·have HF : Hid (PastP w W4 g B (rdPast Z) (.panicked (U.ups g))) := .inl ⟨by unfold rdPast; rw [hn], rfl, GaveE.pre HP.out.k hg⟩
  clear hn hg
  go_wp2_with fail
  exact ⟨rfl, HF.out⟩
 have hN : N ≤ 16 := by have := pNum_le hs; omega
 have HS := hide hs
 have HP4 := hide (HP.out.num K4 R4)
 clear hs R4 K4 c1 HP
 go_wp2_with fail
 go_loopw [11] (fun i wr => ∃ (k : Nat) (vo : Option Addr) (vn vc : Nat) (V Z1 : List Int), k ≤ N ∧ i = .int .i64 k ∧ vn ≤ k ∧ Hid (RP w wr g Z1 B (b1 + 2) vo vn vc V none 0 0 [] (rF g b1) ∧ (rdVec (N - k) Z1).map (fun x => (V ++ x.1, x.2)) = rdVec N Z0)) (fun i _ => N - (intOf i).toNat)
 case atStart => exact ⟨0, none, 0, 0, [], Z0, Nat.zero_le _, rfl, Nat.le_refl _, HP4.out, by rw [Nat.sub_zero]; cases rdVec N Z0 <;> rfl⟩
 case round =>
  obtain ⟨k, vo, vn, vc, V, Z1, hk, rfl, hvn, HZ⟩ := hrel
  rename World => wr
  have c1 := box_cell (HZ.out.1.keep (b1, .cells #[U.ptr g] 84) List.mem_cons_self).1
  simp only at c1
  have x0 := (pbox_c0 HZ.out.1.box).1
  by_cases hlt : k < N
  ·have eN : N - k = (N - (k + 1)) + 1 := by omega
   have HZ2 : Hid ((rdVec ((N - (k + 1)) + 1) Z1).map (fun x => (V ++ x.1, x.2)) = rdVec N Z0) := by have h1 := HZ.out.2; rw [eN] at h1; exact h1
   have HD := hide (HZ.out.1.below (U.below_drew1 wr))
   have HC : Hid (∀ v Zx, RP w v g Zx B (b1 + 2) vo vn vc V none 0 0 [] (rF g b1) → v.cell? ⟨b1, 0, none⟩ = some (U.ptr g) ∧ v.cell? ⟨b1 + 2, 0, none⟩ = some (.slice vo vn vc)) := fun v Zx h => ⟨box_cell (h.keep (b1, .cells #[U.ptr g] 84) List.mem_cons_self).1, (pbox_c0 h.box).1⟩
   have x0d := (HC.out _ _ HD.out).2
   clear eN HZ
   go_wp2_with fail
   refine wp_region_held_drew (S := fun v => v.cell? ⟨b1, 0, none⟩ = some (U.ptr g)) (by kernel_rfl) ((HC.out _ _ HD.out).1) (fun hHeld => ?_)
   refine wTk 0 ⟨some 13, .fieldAddr 25 (.tmp 3) 0, 0, "reader.go:21", #[], none⟩ rfl ?_
   refine wTk 2 ⟨some 15, .fieldAddr 84 (.tmp 1) 0, 0, "reader.go:21", #[], none⟩ rfl ?_
   refine wTk 3 ⟨some 16, .load 82 (.tmp 15), 82, "reader.go:21", #[⟨2, .data⟩], none⟩ rfl ?_
   refine wpAnyH_ready (rs := [1, 4]) (by kernel_rfl) (by simp) ?_
   refine AllReadyH.cons rfl (fun K hK => ?_) (AllReadyH.cons rfl (fun K hK => ?_) AllReadyH.nil)
   ·go_simp
    refine hK.out _ _ ((HC.out _ _ HD.out).1) (fun hHeld => ?_)
    clear hK K
    refine wpAnyH_ready (rs := [4]) (by kernel_rfl) (by simp) (.cons rfl (fun K hK => ?_) .nil)
    go_simp
    go_wp2_with fail
    refine (num_p HD.out.r 1000000000).mono ?_
    rintro e W5 (⟨hn, rfl, hg⟩ | ⟨x, Z2, hs, rfl, R5, K5⟩)
    ·have HF : Hid (PastP w W5 g B (rdPast Z) (.panicked (U.ups g))) := .inl ⟨by have h1 := HZ2.out; rw [rdVec_bad hn] at h1; unfold rdPast; rw [HS.out]; simp only; rw [← h1]; rfl, rfl, GaveE.pre HD.out.k hg⟩
     clear hn hg
     go_wp2_with fail
     exact ⟨rfl, HF.out⟩
    have HP5 := hide (HD.out.num K5 R5)
    have HS5 := hide hs
    have HL5 := hide (HP5.out.below (U.below_new W5 (.cells #[.int .i64 (x : Int)] 3)))
    have y5 := (HC.out _ _ HP5.out).2
    have z5 := (HC.out _ _ HL5.out).2
    obtain ⟨bo, c2, W6, hrun, R6, A6⟩ := HP5.out.v.runs1 (x : Int) (by omega) 22
    have HP7 := hide (HP5.out.appV A6 R6)
    have h6 := HP5.out.heldV A6
    have HC6 : Hid (W6.cell? ⟨b1, 0, none⟩ = some (U.ptr g)) := box_cell (h6.2 (b1, .cells #[U.ptr g] 84) List.mem_cons_self)
    have y6 := (pbox_c0 h6.1).1
    have f6 := (pbox_c0 h6.1).2.2 0
    clear hs R5 K5 A6 R6 h6
    refine hK.out _ _ ((HC.out _ _ HP5.out).1) (fun hHeld => ?_)
    clear hK K
    refine wpAnyH_ready (rs := [5]) (by kernel_rfl) (by simp) (.cons rfl (fun K hK => ?_) .nil)
    go_simp
    refine hK.out _ _ ((HC.out _ _ HL5.out).1) (fun hHeld => ?_)
    clear hK K
    refine wpAnyH_ready (rs := [6]) (by kernel_rfl) (by simp) (.cons rfl (fun K hK => ?_) .nil)
    refine step_appI rfl (.tmp 14) (.tmp 18) rfl rfl rfl hrun ?_
    simp only [Act.put, List.setIfInBounds_toArray]
    refine hK.out _ _ (HC6.out) (fun hHeld => ?_)
    clear hK K
    refine wTn 7 ⟨some 20, .fieldAddr 25 (.tmp 3) 0, 0, "reader.go:21", #[⟨0, .phase⟩, ⟨1, .phase⟩, ⟨2, .phase⟩, ⟨3, .phase⟩, ⟨4, .phase⟩, ⟨5, .phase⟩, ⟨6, .phase⟩], none⟩ rfl ?_
    simp only [Act.put]
    refine wpAnyH_ready (rs := [8]) (by kernel_rfl) (by simp) (.cons rfl (fun K hK => ?_) .nil)
    go_simp
    refine hK.out _ _ (box_cell (HP7.out.keep (b1, .cells #[U.ptr g] 84) List.mem_cons_self).1) (fun hHeld => ?_)
    clear hK K
    refine wpAnyH_done (by kernel_rfl) ?_ _
    clear hHeld
    go_wp2_with fail
    exact ⟨⟨k + 1, bo, vn + 1, c2, V ++ [(x : Int)], Z2, hlt, rfl, by omega, HP7.out, by rw [← HZ2.out, rdVec_next HS5.out]⟩, by show N - (k + 1) < N - k; omega⟩
   ·go_simp
    go_wp2_with fail
    refine (num_p HD.out.r 1000000000).mono ?_
    rintro e W5 (⟨hn, rfl, hg⟩ | ⟨x, Z2, hs, rfl, R5, K5⟩)
    ·have HF : Hid (PastP w W5 g B (rdPast Z) (.panicked (U.ups g))) := .inl ⟨by have h1 := HZ2.out; rw [rdVec_bad hn] at h1; unfold rdPast; rw [HS.out]; simp only; rw [← h1]; rfl, rfl, GaveE.pre HD.out.k hg⟩
     clear hn hg
     go_wp2_with fail
     exact ⟨rfl, HF.out⟩
    have HP5 := hide (HD.out.num K5 R5)
    have HS5 := hide hs
    have HL5 := hide (HP5.out.below (U.below_new W5 (.cells #[.int .i64 (x : Int)] 3)))
    have y5 := (HC.out _ _ HP5.out).2
    have z5 := (HC.out _ _ HL5.out).2
    obtain ⟨bo, c2, W6, hrun, R6, A6⟩ := HP5.out.v.runs1 (x : Int) (by omega) 22
    have HP7 := hide (HP5.out.appV A6 R6)
    have h6 := HP5.out.heldV A6
    have HC6 : Hid (W6.cell? ⟨b1, 0, none⟩ = some (U.ptr g)) := box_cell (h6.2 (b1, .cells #[U.ptr g] 84) List.mem_cons_self)
    have y6 := (pbox_c0 h6.1).1
    have f6 := (pbox_c0 h6.1).2.2 0
    clear hs R5 K5 A6 R6 h6
    refine hK.out _ _ ((HC.out _ _ HP5.out).1) (fun hHeld => ?_)
    clear hK K
    refine wpAnyH_ready (rs := [1, 5]) (by kernel_rfl) (by simp) ?_
    refine AllReadyH.cons rfl (fun K hK => ?_) (AllReadyH.cons rfl (fun K hK => ?_) AllReadyH.nil)
    ·go_simp
     refine hK.out _ _ ((HC.out _ _ HP5.out).1) (fun hHeld => ?_)
     clear hK K
     refine wpAnyH_ready (rs := [5]) (by kernel_rfl) (by simp) (.cons rfl (fun K hK => ?_) .nil)
     go_simp
     refine hK.out _ _ ((HC.out _ _ HL5.out).1) (fun hHeld => ?_)
     clear hK K
     refine wpAnyH_ready (rs := [6]) (by kernel_rfl) (by simp) (.cons rfl (fun K hK => ?_) .nil)
     refine step_appI rfl (.tmp 14) (.tmp 18) rfl rfl rfl hrun ?_
     simp only [Act.put, List.setIfInBounds_toArray]
     refine hK.out _ _ (HC6.out) (fun hHeld => ?_)
     clear hK K
     refine wTn 7 ⟨some 20, .fieldAddr 25 (.tmp 3) 0, 0, "reader.go:21", #[⟨0, .phase⟩, ⟨1, .phase⟩, ⟨2, .phase⟩, ⟨3, .phase⟩, ⟨4, .phase⟩, ⟨5, .phase⟩, ⟨6, .phase⟩], none⟩ rfl ?_
     simp only [Act.put]
     refine wpAnyH_ready (rs := [8]) (by kernel_rfl) (by simp) (.cons rfl (fun K hK => ?_) .nil)
     go_simp
     refine hK.out _ _ (box_cell (HP7.out.keep (b1, .cells #[U.ptr g] 84) List.mem_cons_self).1) (fun hHeld => ?_)
     clear hK K
     refine wpAnyH_done (by kernel_rfl) ?_ _
     clear hHeld
     go_wp2_with fail
     exact ⟨⟨k + 1, bo, vn + 1, c2, V ++ [(x : Int)], Z2, hlt, rfl, by omega, HP7.out, by rw [← HZ2.out, rdVec_next HS5.out]⟩, by show N - (k + 1) < N - k; omega⟩
    ·go_simp
     refine hK.out _ _ ((HC.out _ _ HL5.out).1) (fun hHeld => ?_)
     clear hK K
     refine wpAnyH_ready (rs := [1]) (by kernel_rfl) (by simp) (.cons rfl (fun K hK => ?_) .nil)
     go_simp
     refine hK.out _ _ ((HC.out _ _ HL5.out).1) (fun hHeld => ?_)
     clear hK K
     refine wpAnyH_ready (rs := [6]) (by kernel_rfl) (by simp) (.cons rfl (fun K hK => ?_) .nil)
     refine step_appI rfl (.tmp 14) (.tmp 18) rfl rfl rfl hrun ?_
     simp only [Act.put, List.setIfInBounds_toArray]
     refine hK.out _ _ (HC6.out) (fun hHeld => ?_)
     clear hK K
     refine wTn 7 ⟨some 20, .fieldAddr 25 (.tmp 3) 0, 0, "reader.go:21", #[⟨0, .phase⟩, ⟨1, .phase⟩, ⟨2, .phase⟩, ⟨3, .phase⟩, ⟨4, .phase⟩, ⟨5, .phase⟩, ⟨6, .phase⟩], none⟩ rfl ?_
     simp only [Act.put]
     refine wpAnyH_ready (rs := [8]) (by kernel_rfl) (by simp) (.cons rfl (fun K hK => ?_) .nil)
     go_simp
     refine hK.out _ _ (box_cell (HP7.out.keep (b1, .cells #[U.ptr g] 84) List.mem_cons_self).1) (fun hHeld => ?_)
     clear hK K
     refine wpAnyH_done (by kernel_rfl) ?_ _
     clear hHeld
     go_wp2_with fail
     exact ⟨⟨k + 1, bo, vn + 1, c2, V ++ [(x : Int)], Z2, hlt, rfl, by omega, HP7.out, by rw [← HZ2.out, rdVec_next HS5.out]⟩, by show N - (k + 1) < N - k; omega⟩
  ·have hkN : k = N := by omega
   have HV : Hid (rdVec N Z0 = some (V, Z1)) := by
    have h1 := HZ.out.2
    rw [hkN, Nat.sub_self, rdVec] at h1
    show rdVec N Z0 = _
    rw [← h1]; simp
   have HP5 := hide HZ.out.1
   have HLN := hide HZ.out.1.v.len
   have hvN : vn ≤ 16 := by omega
   have HVB := hide (rdVec_bd N HV.out)
   clear HZ
   go_wp2_with fail
   refine (newTrail_any 2 vo vn vc V wr HLN.out hvN (fun e => (HP5.out.v.at.1 e).1) HP5.out.v.at.2).mono ?_
   rintro e W5 ⟨rfl, hT, b5⟩
   obtain ⟨gt, hgt⟩ : ∃ gt, wr.heap.size = gt := ⟨_, rfl⟩
   rw [hgt] at hT
   rw [hgt]
   have HP6 := hide (HP5.out.add b5 (Nat.le_of_eq hgt) hT)
   have HGB : Hid (b1 + 2 < gt) := by have h1 := some_lt HP5.out.box; show b1 + 2 < gt; omega
   have HGT : Hid (gt ≠ g) := fun e => by have h1 := HG.out; have h2 := HP5.out.k.size; omega
   have c6 := box_cell (HP6.out.keep (b1, .cells #[U.ptr g] 84) (List.mem_cons_of_mem _ List.mem_cons_self)).1
   simp only at c6
   clear hT b5 hgt c1 x0
   go_wp2_with fail
   refine (cnt_p HP6.out.r 3).mono ?_
   rintro e W7 (⟨hn, rfl, hg⟩ | ⟨M, Z3, hs, rfl, R7, K7⟩)
   ·have HF : Hid (PastP w W7 g B (rdPast Z) (.panicked (U.ups g))) := .inl ⟨by unfold rdPast; rw [HS.out]; simp only; rw [HV.out]; simp only; rw [hn], rfl, GaveE.pre HP6.out.k hg⟩
    clear hn hg
    go_wp2_with fail
    exact ⟨rfl, HF.out⟩
   have HP7 := hide (HP6.out.num K7 R7)
   have HS7 := hide hs
   have hM := pCnt_le hs
   clear hs R7 K7 c6
   go_wp2_with fail
   go_loopw [28] (fun i wr => ∃ (k cn cc : Nat) (co : Option Addr) (C : List Sn) (Z4 : List Int) (T : Nat → Int) (r0 : Int), k ≤ M ∧ i = .int .i64 k ∧ Hid ((0 ≤ r0 ∧ r0 ≤ 15) ∧ (cn : Int) ≤ r0 * 1000000001 + T r0.toNat ∧ (∀ k, 0 ≤ T k ∧ T k ≤ 1000000000) ∧ RP w wr g Z4 B (b1 + 2) vo vn vc V co cn cc C ((gt, .cells (TC 2 r0 T).toArray 133 (0, 0)) :: rF g b1) ∧ (rdCloud (M - k) T r0 Z4).map (fun x => (C ++ x.1, x.2)) = rdCloud M (trl V) 0 Z3)) (fun i _ => M - (intOf i).toNat)
   case atStart => exact ⟨0, 0, 0, none, [], Z3, trl V, 0, Nat.zero_le _, rfl, ⟨by decide, by decide⟩, by have := (HVB.out 0).1; show (0 : Int) ≤ 0 * 1000000001 + trl V 0; omega, HVB.out, HP7.out, by rw [Nat.sub_zero]; cases rdCloud M (trl V) 0 Z3 <;> rfl⟩
   case round =>
    obtain ⟨j, cn, cc, co, C, Z4, T, r0, hj, rfl, HZ⟩ := hrel
    rename World => wv
    have d1 := box_cell (HZ.out.2.2.2.1.keep (b1, .cells #[U.ptr g] 84) (List.mem_cons_of_mem _ List.mem_cons_self)).1
    simp only at d1
    by_cases hjm : j < M
    ·obtain ⟨h0, hcn, hTb, hRP, hrd⟩ := HZ.out
     have eM : M - j = (M - (j + 1)) + 1 := by omega
     rw [eM] at hrd
     have HRD := hide hrd
     have HRP := hide hRP
     have HTB := hide hTb
     have H0 := hide h0
     have HCN := hide hcn
     have hT : TrB wv gt 2 r0 T := (hRP.keep (gt, .cells (TC 2 r0 T).toArray 133 (0, 0)) List.mem_cons_self).1
     have HT := hide hT
     clear eM HZ h0 hcn hTb hRP hrd hT
     go_wp2_with fail
     refine (rplace_any HRP.out.r HT.out HGT.out H0.out HTB.out).mono ?_
     rintro e W8 (⟨hn, rfl, hg⟩ | ⟨a, b, Z5, hs, rfl, R8, K8⟩)
     ·have HF : Hid (PastP w W8 g B (rdPast Z) (.panicked (U.ups g))) := .inl ⟨by have h1 := HRD.out; rw [rdCloud_bad hn] at h1; unfold rdPast; rw [HS.out]; simp only; rw [HV.out]; simp only; rw [HS7.out]; simp only; rw [← h1]; rfl, rfl, GaveE.pre HRP.out.k hg⟩
      clear hn hg
      go_wp2_with fail
      exact ⟨rfl, HF.out⟩
     have hab := plF_some hs
     have hT8 := (HTB.out a.toNat).1
     have hb0 : 0 ≤ b := by omega
     have hb1' : b ≤ 1000000000 := by omega
     obtain ⟨kk, hkk⟩ : ∃ kk : Nat, a = (kk : Int) := ⟨a.toNat, by have := H0.out; omega⟩
     have HAB := hide hab
     have HK16 : Hid (kk < 16) := by show kk < 16; omega
     have HP8 := hide (HRP.out.num K8 R8)
     have HS8 := hide hs
     have c8 := box_cell (HP8.out.keep (b1, .cells #[U.ptr g] 84) (List.mem_cons_of_mem _ List.mem_cons_self)).1
     simp only at c8
     subst hkk
     clear hab hT8 hs R8 K8 d1
     go_wp2_with fail
     refine (num_p HP8.out.r (1000000000 - b)).mono ?_
     rintro e W9 (⟨hn, rfl, hg⟩ | ⟨c, Z6, hs, rfl, R9, K9⟩)
     ·have HF : Hid (PastP w W9 g B (rdPast Z) (.panicked (U.ups g))) := .inl ⟨by have h1 := HRD.out; rw [rdCloud_bad2 HS8.out hn] at h1; unfold rdPast; rw [HS.out]; simp only; rw [HV.out]; simp only; rw [HS7.out]; simp only; rw [← h1]; rfl, rfl, GaveE.pre HP8.out.k hg⟩
      clear hn hg
      go_wp2_with fail
      exact ⟨rfl, HF.out⟩
     have hc := pNum_le hs
     have HP9 := hide (HP8.out.num K9 R9)
     have HRD2 : Hid ((rdCloud (M - (j + 1)) (upd T kk (b + c)) (kk : Int) Z6).map (fun x => ((C ++ [⟨(kk : Int), b, b + c⟩]) ++ x.1, x.2)) = rdCloud M (trl V) 0 Z3) := by
      have h1 := rdCloud_next (n := M - (j + 1)) (C := C) HS8.out hs
      rw [Int.toNat_natCast] at h1
      show _ = _
      rw [← HRD.out, h1]
     have y9 := (pbox_c0 HP9.out.box).2.1
     have hcn2 : cn + 1 ≤ 5864062014805 := by have h1 := HCN.out; have h2 := (HTB.out r0.toNat).2; have h3 := H0.out; omega
     have HBC : Hid (0 ≤ b + (c : Int) ∧ b + (c : Int) ≤ 1000000000) := by show _ ∧ _; omega
     clear hs R9 K9 c8
     go_wp2_with (at_builtin; go_loud (refine J.BR.app1 HP9.out.c ⟨(kk : Int), b, b + c⟩ _ rfl hcn2 rfl (.tmp 44) (.tmp 49) rfl rfl rfl ?_); intro bo c2 W10 R10 A10; have h10 := HP9.out.heldC A10; have y10 := (pbox_c0 h10.1).2.1; have f10 := (pbox_c0 h10.1).2.2 1; have HP11 := hide (HP9.out.appC A10 R10); clear h10 R10 A10)
     have hT11 : TrB _ gt 2 r0 T := (HP11.out.keep (gt, .cells (TC 2 r0 T).toArray 133 (0, 0)) List.mem_cons_self).1
     refine (pass_any hT11 kk HK16.out (b + c)).mono ?_
     rintro e W12 ⟨rfl, hT12, K12⟩
     have HP12 := hide (HP11.out.turn (F' := (gt, .cells (TC 2 (kk : Int) (upd T kk (b + c))).toArray 133 (0, 0)) :: rF g b1) List.mem_cons_self K12 hT12 (fun x hx => by
      rcases List.mem_cons.1 hx with rfl | hx
      ·exact .inl rfl
      ·refine .inr ⟨List.mem_cons_of_mem _ hx, ?_⟩
       have h1 := HGB.out
       simp only [rF, List.mem_cons, List.not_mem_nil, or_false] at hx
       rcases hx with rfl | rfl
       ·show b1 ≠ gt; omega
       ·show b1 + 1 ≠ gt; omega))
     have HRM := hide (room_next (c := c) HCN.out (HTB.out r0.toNat).2 H0.out.1 HAB.out.1 HAB.out.2.2.1 hb0)
     clear hT11 hT12 K12 HP11 y9 y10 f10
     go_wp2_with fail
     exact ⟨⟨j + 1, cn + 1, c2, bo, C ++ [⟨(kk : Int), b, b + c⟩], Z6, upd T kk (b + c), (kk : Int), hjm, rfl, ⟨by omega, by have := HK16.out; omega⟩, HRM.out, fun q => by unfold upd; split; exact HBC.out; exact HTB.out q, HP12.out, HRD2.out⟩, by show M - (j + 1) < M - j; omega⟩
    ·obtain ⟨h0, hcn, hTb, hRP, hrd⟩ := HZ.out
     have hjM : j = M := by omega
     rw [hjM, Nat.sub_self, rdCloud] at hrd
     have HPA : Hid (rdPast Z = some (⟨V, C⟩, Z4)) := by show _ = _; unfold rdPast; rw [HS.out]; simp only; rw [HV.out]; simp only; rw [HS7.out]; simp only; rw [← hrd]; simp
     have e1 := hRP.v.len
     have e2 := hRP.c.len
     subst e1 e2
     have lP := run_ldP (PBox.at (p := ⟨vo, V.length, vc, co, C.length, cc, ⟨V, C⟩⟩) hRP.box)
     have k2 := (hRP.keep (b1 + 1, .cells #[.slice none 0 0, .slice none 0 0] 25) (List.mem_cons_of_mem _ (List.mem_cons_of_mem _ List.mem_cons_self))).1
     have sP := run_stP (p := pv0) (p' := ⟨vo, V.length, vc, co, C.length, cc, ⟨V, C⟩⟩) k2
     have HBX : Hid (PBox (wv.setRow (b1 + 1) (PC ⟨vo, V.length, vc, co, C.length, cc, ⟨V, C⟩⟩)) (b1 + 1) ⟨vo, V.length, vc, co, C.length, cc, ⟨V, C⟩⟩) := setRow_heap wv (b1 + 1) _ _ _ _ k2
     have K13 : U.Kg wv (wv.setRow (b1 + 1) (PC ⟨vo, V.length, vc, co, C.length, cc, ⟨V, C⟩⟩)) (b1 + 1) := ⟨rfl, rfl, rfl, by simp, fun q _ hn => setRow_other wv (b1 + 1) q _ hn⟩
     have P13 := hRP.turn (F' := []) (List.mem_cons_of_mem _ (List.mem_cons_of_mem _ List.mem_cons_self) : (b1 + 1, Obj.cells #[.slice none 0 0, .slice none 0 0] 25) ∈ _) K13 HBX.out (fun x hx => by cases hx)
     have HF : Hid (PastP w (wv.setRow (b1 + 1) (PC ⟨vo, V.length, vc, co, C.length, cc, ⟨V, C⟩⟩)) g B (rdPast Z) (.returned (PV ⟨vo, V.length, vc, co, C.length, cc, ⟨V, C⟩⟩))) := .inr ⟨⟨V, C⟩, Z4, vo, vc, co, cc, HPA.out, rfl, P13.r, P13.k, P13.v, P13.c, fun q e => (P13.vnew q e).1, fun q e => (P13.cnew q e).1⟩
     clear h0 hcn hTb hRP hrd HZ HPA k2 K13 P13
     go_wp2_with fail
     exact bodyPost_ret (resP Tryz.results45 rfl HBX.out) rfl HF.out
end Go.Proofs.YtphohmoibnoeaaaGreat
