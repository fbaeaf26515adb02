/- ShopTells: the law. -/
import Derived.Test.YtheiblagjeekjaaDoorTeH
namespace Go.Proofs.YtheiblagjeekjaaDoor
open Go.RowKit
variable {w w' w2 : World} {g : Nat}
attribute [local go_sem ↓] ldLn_eq stLn_eq ldAn_eq stAn_eq

theorem tell30 : tellT 3 ⟨0, none, 0, 0, 0, 0⟩ [] = [51, 32, 111, 107, 10] := by
  have e1 : num 3 = [51] := by unfold num Lib.itoa Lib.decDigits; rfl
  have e2 : wordL 0 = [111, 107] := by decide +kernel
  unfold tellT tkT
  simp only [e1, e2]
  rfl
theorem tell_as (n st tok msg : Int) (lno : Option Addr) (lnn lnc : Nat) (Q : List Lne) (l : List UInt8) (hl : tellT n ⟨st, lno, lnn, lnc, tok, msg⟩ Q = l) (w : World) (hn : R64 n) (hs : R64 st) (htk : R64 tok) (hms : R64 msg) (hT : Tab w) (hW : Wt w) (hq : LnSrc w lno lnn lnc Q) (hr : ∀ m, m ∈ Q → Rn m) (hw : wtL Q ≤ 100000000) :
    Calls Tryd.prog 7 #[.int .i64 n, .agg #[.int .i64 st, .slice lno lnn lnc, .int .i64 tok, .int .i64 msg]] w fun e w' => e = .returned (.string (bs l)) ∧ Below w.heap.size w w' := by
  subst hl
  exact tell_any n st tok msg lno lnn lnc Q w hn hs htk hms hT hW hq hr (by omega)
theorem tellT_same (n st tok msg : Int) (a b : Option Addr) (i j k : Nat) (Q : List Lne) : tellT n ⟨st, a, i, j, tok, msg⟩ Q = tellT n ⟨st, b, i, k, tok, msg⟩ Q := rfl
set_option maxRecDepth 100000 in
set_option maxHeartbeats 3200000 in
theorem tells_any (i st tok msg : Int) (lno : Option Addr) (n c : Nat) (Q : List Lne) (w : World) (hi : R64 i) (hs : R64 st) (htk : R64 tok) (hms : R64 msg) (hT : Tab w) (hW : Wt w) (hq : LnSrc w lno n c Q) (hr : ∀ m, m ∈ Q → Rn m) (hl : wtL Q ≤ 100000000) :
    Calls Tryd.prog 4 #[.int .i64 i, .agg #[.int .i64 st, .slice lno n c, .int .i64 tok, .int .i64 msg]] w fun e w' => e = .returned (.bool true) ∧ Below w.heap.size w w' := by
  obtain ⟨w1, hw1⟩ : ∃ w1, w.alloc (.cells #[.int .i64 st, .slice lno n c, .int .i64 tok, .int .i64 msg] 28) = w1 := ⟨_, rfl⟩
  have hbx : AnBox w1 w.heap.size ⟨st, lno, n, c, tok, msg⟩ := by rw [← hw1]; exact AnBox_new w ⟨st, lno, n, c, tok, msg⟩
  have hbl : Below w.heap.size w w1 := by rw [← hw1]; exact below_new _ _
  have hsz : w1.heap.size = w.heap.size + 1 := by rw [← hw1]; simp
  have hlen := hq.len
  have hwl := wtL_len Q
  have hn : n ≤ 1048576 * 2 := by omega
  have HQ := hide hq
  have HT := hide hT
  have HW := hide hW
  have HR := hide hr
  have HI := hide hi
  have HS := hide hs
  have HTk := hide htk
  have HMs := hide hms
  have HX := hide hbx
  have HB := hide hbl
  have HZ := hide hsz
  clear hq hT hW hr hi hs htk hms hbx hbl hsz
  obtain ⟨y, hy⟩ : ∃ y, y = bs [51, 32, 111, 107, 10] := ⟨_, rfl⟩
  have hyq : (y.toList == [51, 32, 111, 107, 10]) = true := by rw [hy, ByteArray.toList_eq, bs_list]; rfl
  obtain ⟨z, hz⟩ : ∃ z, z = bs (tellT i ⟨st, lno, n, c, tok, msg⟩ Q) := ⟨_, rfl⟩
  have HC1 : Hid (∀ v, Tab v → Wt v → Calls Tryd.prog 7 #[.int .i64 3, .agg #[.int .i64 0, .slice none 0 0, .int .i64 0, .int .i64 0]] v fun r w' => r = .returned (.string y) ∧ Below v.heap.size v w') := fun v t s => by rw [hy]; exact tell_as 3 0 0 0 none 0 0 [] _ tell30 v ⟨by decide, by decide⟩ ⟨by decide, by decide⟩ ⟨by decide, by decide⟩ ⟨by decide, by decide⟩ t s (LnSrc.empty v) (fun m hm => by cases hm) (by decide)
  have HC2 : Hid (∀ v (bo : Option Addr) (cc : Nat), Tab v → Wt v → LnSrc v bo n cc Q → Calls Tryd.prog 7 #[.int .i64 i, .agg #[.int .i64 st, .slice bo n cc, .int .i64 tok, .int .i64 msg]] v fun r w' => r = .returned (.string z) ∧ Below v.heap.size v w') := fun v bo cc t s q => by rw [hz]; exact tell_as i st tok msg bo n cc Q _ (tellT_same ..) v HI.out HS.out HTk.out HMs.out t s q HR.out hl
  have HC3 : Hid (∀ v, LnSrc v lno n c Q → Calls Tryd.prog 8 #[.int .i64 i, .agg #[.int .i64 st, .slice lno n c, .int .i64 tok, .int .i64 msg]] v fun r w' => r = .returned (.string z) ∧ Below v.heap.size v w') := fun v q => by rw [hz]; exact rtell_any i st tok msg lno n c Q v HI.out HS.out HTk.out HMs.out q HR.out hl
  clear hy hz
  go_enter Tryd.func4, Tryd.ntmps4
  go_upto_region 1 with fail
  go_cut [5] from 7 to 47 (fun u wx => ∃ (gh : Nat) (bo : Option Addr) (cc : Nat), u = .pointer (some ⟨gh, 0, none⟩) ∧ Hid (Hw w wx w.heap.size gh st tok msg lno bo n c cc Q))
  case first =>
    refine wp_region_held_drew (S := fun v => AnBox v w.heap.size ⟨st, lno, n, c, tok, msg⟩) (by kernel_rfl) (HX.out.below (below_drew1 _)) (fun hHeld => ?_)
    refine wpAnyH_take (i := 0) (oi := { dst := some 7, op := Op.fieldAddr 28 (Operand.tmp 3) 0, type := 0, pos := "law.go:24", after := #[], guard := none }) (v := ?_) rfl (by kernel_rfl) (by kernel_rfl) (by kernel_rfl) (fun _ _ _ h => h) (Or.inl ⟨by rfl, ?_⟩) (by assumption) ?_
    rotate_left
    · (intro w hSw; (try dsimp only at hSw); go_simp); first | done | with_reducible rfl
    simp only [Act.put, List.setIfInBounds_toArray, List.set_cons_zero, List.set_cons_succ]
    refine wpAnyH_take (i := 3) (oi := { dst := some 10, op := Op.fieldAddr 28 (Operand.tmp 3) 1, type := 0, pos := "law.go:24", after := #[], guard := none }) (v := ?_) rfl (by kernel_rfl) (by kernel_rfl) (by kernel_rfl) (fun _ _ _ h => h) (Or.inl ⟨by rfl, ?_⟩) (by assumption) ?_
    rotate_left
    · (intro w hSw; (try dsimp only at hSw); go_simp); first | done | with_reducible rfl
    simp only [Act.put, List.setIfInBounds_toArray, List.set_cons_zero, List.set_cons_succ]
    refine wpAnyH_take (i := 6) (oi := { dst := some 13, op := Op.fieldAddr 28 (Operand.tmp 3) 2, type := 0, pos := "law.go:24", after := #[], guard := none }) (v := ?_) rfl (by kernel_rfl) (by kernel_rfl) (by kernel_rfl) (fun _ _ _ h => h) (Or.inl ⟨by rfl, ?_⟩) (by assumption) ?_
    rotate_left
    · (intro w hSw; (try dsimp only at hSw); go_simp); first | done | with_reducible rfl
    simp only [Act.put, List.setIfInBounds_toArray, List.set_cons_zero, List.set_cons_succ]
    refine wpAnyH_take (i := 8) (oi := { dst := some 15, op := Op.fieldAddr 28 (Operand.tmp 3) 3, type := 0, pos := "law.go:24", after := #[], guard := none }) (v := ?_) rfl (by kernel_rfl) (by kernel_rfl) (by kernel_rfl) (fun _ _ _ h => h) (Or.inl ⟨by rfl, ?_⟩) (by assumption) ?_
    rotate_left
    · (intro w hSw; (try dsimp only at hSw); go_simp); first | done | with_reducible rfl
    simp only [Act.put, List.setIfInBounds_toArray, List.set_cons_zero, List.set_cons_succ]
    refine wpAnyH_take (i := 1) (oi := { dst := some 8, op := Op.load 23 (Operand.tmp 7), type := 23, pos := "law.go:24", after := #[{ on := 0, ground := Ground.data }], guard := none }) (v := ?_) rfl (by kernel_rfl) (by kernel_rfl) (by kernel_rfl) (fun _ _ _ h => h) (Or.inl ⟨by rfl, ?_⟩) (by assumption) ?_
    rotate_left
    · (intro w hSw; (try dsimp only at hSw); have d0 := hSw.c0; simp only at d0; go_simp); first | done | with_reducible rfl
    simp only [Act.put, List.setIfInBounds_toArray, List.set_cons_zero, List.set_cons_succ]
    refine wpAnyH_take (i := 4) (oi := { dst := some 11, op := Op.load 26 (Operand.tmp 10), type := 26, pos := "law.go:24", after := #[{ on := 3, ground := Ground.data }], guard := none }) (v := ?_) rfl (by kernel_rfl) (by kernel_rfl) (by kernel_rfl) (fun _ _ _ h => h) (Or.inl ⟨by rfl, ?_⟩) (by assumption) ?_
    rotate_left
    · (intro w hSw; (try dsimp only at hSw); have d0 := hSw.c1; simp only at d0; go_simp); first | done | with_reducible rfl
    simp only [Act.put, List.setIfInBounds_toArray, List.set_cons_zero, List.set_cons_succ]
    refine wpAnyH_take (i := 7) (oi := { dst := some 14, op := Op.load 3 (Operand.tmp 13), type := 3, pos := "law.go:24", after := #[{ on := 6, ground := Ground.data }], guard := none }) (v := ?_) rfl (by kernel_rfl) (by kernel_rfl) (by kernel_rfl) (fun _ _ _ h => h) (Or.inl ⟨by rfl, ?_⟩) (by assumption) ?_
    rotate_left
    · (intro w hSw; (try dsimp only at hSw); have d0 := hSw.c2; simp only at d0; go_simp); first | done | with_reducible rfl
    simp only [Act.put, List.setIfInBounds_toArray, List.set_cons_zero, List.set_cons_succ]
    refine wpAnyH_take (i := 9) (oi := { dst := some 16, op := Op.load 3 (Operand.tmp 15), type := 3, pos := "law.go:24", after := #[{ on := 8, ground := Ground.data }], guard := none }) (v := ?_) rfl (by kernel_rfl) (by kernel_rfl) (by kernel_rfl) (fun _ _ _ h => h) (Or.inl ⟨by rfl, ?_⟩) (by assumption) ?_
    rotate_left
    · (intro w hSw; (try dsimp only at hSw); have d0 := hSw.c3; simp only at d0; go_simp); first | done | with_reducible rfl
    simp only [Act.put, List.setIfInBounds_toArray, List.set_cons_zero, List.set_cons_succ]
    refine wpAnyH_ready (rs := [2, 11]) (by kernel_rfl) (by simp) ?_
    refine AllReadyH.cons rfl (fun K hK => ?_) (AllReadyH.cons rfl (fun K hK => ?_) AllReadyH.nil)
    · go_simp
      have bA : Below w.heap.size w (w1.drew.alloc (.cells #[] 31)) := HB.out.trans (((below_drew1 w1).trans (below_new w1.drew _)).mono HB.out.size)
      have xA : AnBox (w1.drew.alloc (.cells #[] 31)) w.heap.size ⟨st, lno, n, c, tok, msg⟩ := (HX.out.below (below_drew1 _)).below (below_new _ _)
      refine hK.out _ _ (xA) (fun hHeld => ?_)
      clear hK K
      refine wpAnyH_ready (rs := [5, 11]) (by kernel_rfl) (by simp) ?_
      refine AllReadyH.cons rfl (fun K hK => ?_) (AllReadyH.cons rfl (fun K hK => ?_) AllReadyH.nil)
      · obtain ⟨bo, cc, w2, hrun, hc, -⟩ := hand_app (ao := some ⟨w1.heap.size, 0, none⟩) bA xA (LnR.lit w1.drew) HQ.out (fun k e => by have e1 := Option.some.inj e; have := HZ.out; simp only at e1; omega) (by omega) 26
        refine step_appLn (by rfl) (.tmp 9) (.tmp 11) (by rfl) (by rfl) (by rfl) hrun ?_
        refine hK.out _ _ (hc.a) (fun hHeld => ?_)
        clear hK K
        refine wpAnyH_take (i := 10) (oi := { dst := some 17, op := Op.build 28 #[(0, Operand.tmp 8), (1, Operand.tmp 12), (2, Operand.tmp 14), (3, Operand.tmp 16)], type := 28, pos := "law.go:24", after := #[{ on := 1, ground := Ground.data }, { on := 5, ground := Ground.data }, { on := 7, ground := Ground.data }, { on := 9, ground := Ground.data }], guard := none }) (v := ?_) rfl (by kernel_rfl) (by kernel_rfl) (by kernel_rfl) (fun _ _ _ h => h) (Or.inl ⟨by rfl, ?_⟩) (by assumption) ?_
        rotate_left
        · (intro w hSw; (try dsimp only at hSw); go_simp); first | done | with_reducible rfl
        simp only [Act.put, List.setIfInBounds_toArray]
        obtain ⟨w3, hst, hF⟩ := hc.made
        refine wpAnyH_ready (rs := [11]) (by kernel_rfl) (by simp) ?_
        refine AllReadyH.cons rfl (fun K hK => ?_) ?_
        rotate_left
        · exact AllReadyH.nil
        go_simp
        refine hK.out _ _ (hc.a.below (below_new _ _)) (fun hHeld => ?_)
        clear hK K
        refine wpAnyH_ready (rs := [12]) (by kernel_rfl) (by simp) ?_
        refine AllReadyH.cons rfl (fun K hK => ?_) ?_
        rotate_left
        · exact AllReadyH.nil
        go_simp
        refine hK.out _ _ (hF.a) (fun hHeld => ?_)
        clear hK K
        have HF := hide hF
        refine wpAnyH_done (by kernel_rfl) ?_ _
        clear hHeld
        go_wp2_with fail
        go_meet
        exact ⟨_, _, _, rfl, HF⟩
      · go_simp
        have bA2 : Below w.heap.size w ((w1.drew.alloc (.cells #[] 31)).alloc (.cells #[.int .i64 0, .slice none 0 0, .int .i64 0, .int .i64 0] 28)) := bA.trans ((below_new _ _).mono bA.size)
        have xA2 : AnBox ((w1.drew.alloc (.cells #[] 31)).alloc (.cells #[.int .i64 0, .slice none 0 0, .int .i64 0, .int .i64 0] 28)) w.heap.size ⟨st, lno, n, c, tok, msg⟩ := xA.below (below_new _ _)
        refine hK.out _ _ (xA2) (fun hHeld => ?_)
        clear hK K
        have hgh : (w1.drew.alloc (.cells #[] 31)).heap.size = w1.heap.size + 1 := by simp
        have hx0 : AnBox ((w1.drew.alloc (.cells #[] 31)).alloc (.cells #[.int .i64 0, .slice none 0 0, .int .i64 0, .int .i64 0] 28)) (w1.heap.size + 1) an0 := by rw [← hgh]; exact AnBox_new (w1.drew.alloc (.cells #[] 31)) an0
        obtain ⟨bo, cc, w2, hrun, hc, hap⟩ := hand_app (ao := some ⟨w1.heap.size, 0, none⟩) bA2 xA2 ((LnR.lit w1.drew).below (below_new _ _)) HQ.out (fun k e => by have e1 := Option.some.inj e; have := HZ.out; simp only at e1; omega) (by omega) 26
        have hkk : ∀ k, blk (some (⟨w1.heap.size, 0, none⟩ : Addr)) = some k → k ≠ w1.heap.size + 1 := fun k e => by have e1 := Option.some.inj e; simp only at e1; omega
        have hx1 := ap_box hap hx0 hkk
        obtain ⟨w3, hst, hF⟩ := hc.into hx1 (by have := HB.out.size; omega) (by have := HZ.out; omega) (ap_ne hap hx0.lt hkk)
        refine wpAnyH_ready (rs := [5]) (by kernel_rfl) (by simp) ?_
        refine AllReadyH.cons rfl (fun K hK => ?_) ?_
        rotate_left
        · exact AllReadyH.nil
        refine step_appLn (by rfl) (.tmp 9) (.tmp 11) (by rfl) (by rfl) (by rfl) hrun ?_
        refine hK.out _ _ (hc.a) (fun hHeld => ?_)
        clear hK K
        refine wpAnyH_take (i := 10) (oi := { dst := some 17, op := Op.build 28 #[(0, Operand.tmp 8), (1, Operand.tmp 12), (2, Operand.tmp 14), (3, Operand.tmp 16)], type := 28, pos := "law.go:24", after := #[{ on := 1, ground := Ground.data }, { on := 5, ground := Ground.data }, { on := 7, ground := Ground.data }, { on := 9, ground := Ground.data }], guard := none }) (v := ?_) rfl (by kernel_rfl) (by kernel_rfl) (by kernel_rfl) (fun _ _ _ h => h) (Or.inl ⟨by rfl, ?_⟩) (by assumption) ?_
        rotate_left
        · (intro w hSw; (try dsimp only at hSw); go_simp); first | done | with_reducible rfl
        simp only [Act.put, List.setIfInBounds_toArray]
        refine wpAnyH_ready (rs := [12]) (by kernel_rfl) (by simp) ?_
        refine AllReadyH.cons rfl (fun K hK => ?_) ?_
        rotate_left
        · exact AllReadyH.nil
        go_simp
        refine hK.out _ _ (hF.a) (fun hHeld => ?_)
        clear hK K
        have HF := hide hF
        refine wpAnyH_done (by kernel_rfl) ?_ _
        clear hHeld
        go_wp2_with fail
        go_meet
        exact ⟨_, _, _, rfl, HF⟩
    · go_simp
      have bB : Below w.heap.size w (w1.drew.alloc (.cells #[.int .i64 0, .slice none 0 0, .int .i64 0, .int .i64 0] 28)) := HB.out.trans (((below_drew1 w1).trans (below_new w1.drew _)).mono HB.out.size)
      have xB : AnBox (w1.drew.alloc (.cells #[.int .i64 0, .slice none 0 0, .int .i64 0, .int .i64 0] 28)) w.heap.size ⟨st, lno, n, c, tok, msg⟩ := (HX.out.below (below_drew1 _)).below (below_new _ _)
      refine hK.out _ _ (xB) (fun hHeld => ?_)
      clear hK K
      refine wpAnyH_ready (rs := [2]) (by kernel_rfl) (by simp) ?_
      refine AllReadyH.cons rfl (fun K hK => ?_) ?_
      rotate_left
      · exact AllReadyH.nil
      go_simp
      have bB2 : Below w.heap.size w ((w1.drew.alloc (.cells #[.int .i64 0, .slice none 0 0, .int .i64 0, .int .i64 0] 28)).alloc (.cells #[] 31)) := bB.trans ((below_new _ _).mono bB.size)
      have xB2 : AnBox ((w1.drew.alloc (.cells #[.int .i64 0, .slice none 0 0, .int .i64 0, .int .i64 0] 28)).alloc (.cells #[] 31)) w.heap.size ⟨st, lno, n, c, tok, msg⟩ := xB.below (below_new _ _)
      refine hK.out _ _ (xB2) (fun hHeld => ?_)
      clear hK K
      have hgh : (w1.drew.alloc (.cells #[.int .i64 0, .slice none 0 0, .int .i64 0, .int .i64 0] 28)).heap.size = w1.heap.size + 1 := by simp
      have hx0 : AnBox ((w1.drew.alloc (.cells #[.int .i64 0, .slice none 0 0, .int .i64 0, .int .i64 0] 28)).alloc (.cells #[] 31)) w1.heap.size an0 := (AnBox_new w1.drew an0).below (below_new _ _)
      obtain ⟨bo, cc, w2, hrun, hc, hap⟩ := hand_app (ao := some ⟨w1.heap.size + 1, 0, none⟩) bB2 xB2 (by have h := LnR.lit (w1.drew.alloc (.cells #[.int .i64 0, .slice none 0 0, .int .i64 0, .int .i64 0] 28)); rw [hgh] at h; exact h) HQ.out (fun k e => by have e1 := Option.some.inj e; have := HZ.out; simp only at e1; omega) (by omega) 26
      have hkk : ∀ k, blk (some (⟨w1.heap.size + 1, 0, none⟩ : Addr)) = some k → k ≠ w1.heap.size := fun k e => by have e1 := Option.some.inj e; simp only at e1; omega
      have hx1 := ap_box hap hx0 hkk
      obtain ⟨w3, hst, hF⟩ := hc.into hx1 (by have := HB.out.size; omega) (by have := HZ.out; omega) (ap_ne hap hx0.lt hkk)
      refine wpAnyH_ready (rs := [5]) (by kernel_rfl) (by simp) ?_
      refine AllReadyH.cons rfl (fun K hK => ?_) ?_
      rotate_left
      · exact AllReadyH.nil
      refine step_appLn (by rfl) (.tmp 9) (.tmp 11) (by rfl) (by rfl) (by rfl) hrun ?_
      refine hK.out _ _ (hc.a) (fun hHeld => ?_)
      clear hK K
      refine wpAnyH_take (i := 10) (oi := { dst := some 17, op := Op.build 28 #[(0, Operand.tmp 8), (1, Operand.tmp 12), (2, Operand.tmp 14), (3, Operand.tmp 16)], type := 28, pos := "law.go:24", after := #[{ on := 1, ground := Ground.data }, { on := 5, ground := Ground.data }, { on := 7, ground := Ground.data }, { on := 9, ground := Ground.data }], guard := none }) (v := ?_) rfl (by kernel_rfl) (by kernel_rfl) (by kernel_rfl) (fun _ _ _ h => h) (Or.inl ⟨by rfl, ?_⟩) (by assumption) ?_
      rotate_left
      · (intro w hSw; (try dsimp only at hSw); go_simp); first | done | with_reducible rfl
      simp only [Act.put, List.setIfInBounds_toArray]
      refine wpAnyH_ready (rs := [12]) (by kernel_rfl) (by simp) ?_
      refine AllReadyH.cons rfl (fun K hK => ?_) ?_
      rotate_left
      · exact AllReadyH.nil
      go_simp
      refine hK.out _ _ (hF.a) (fun hHeld => ?_)
      clear hK K
      have HF := hide hF
      refine wpAnyH_done (by kernel_rfl) ?_ _
      clear hHeld
      go_wp2_with fail
      go_meet
      exact ⟨_, _, _, rfl, HF⟩
  case rest =>
    obtain ⟨gh, bo, cc, rfl, HH⟩ := hcut
    clear HX HB HZ hw1
    go_upto_region 2 with fail
    go_cut [29] from 7 to 47 (fun u wx => u = .bool false ∧ Hid (Hw w wx w.heap.size gh st tok msg lno bo n c cc Q))
    case first =>
      refine wp_region_held_drew (S := fun v => AnBox v w.heap.size ⟨st, lno, n, c, tok, msg⟩ ∧ AnBox v gh ⟨st, bo, n, cc, tok, msg⟩) (by kernel_rfl) (⟨HH.out.a.below (below_drew1 _), HH.out.h.below (below_drew1 _)⟩) (fun hHeld => ?_)
      refine wpAnyH_take (i := 0) (oi := { dst := some 18, op := Op.build 28 #[], type := 28, pos := "law.go:25", after := #[], guard := none }) (v := ?_) rfl (by kernel_rfl) (by kernel_rfl) (by kernel_rfl) (fun _ _ _ h => h) (Or.inl ⟨by rfl, ?_⟩) (by assumption) ?_
      rotate_left
      · (intro w hSw; (try dsimp only at hSw); go_simp); first | done | with_reducible rfl
      simp only [Act.put, List.setIfInBounds_toArray, List.set_cons_zero, List.set_cons_succ]
      refine wpAnyH_ready (rs := [1]) (by kernel_rfl) (by simp) ?_
      refine AllReadyH.cons rfl (fun K hK => ?_) ?_
      rotate_left
      · exact AllReadyH.nil
      go_simp
      go_wp2_with fail
      have HD := hide (HH.out.on (below_drew1 wc))
      refine (HC1.out _ (HT.out.on HD.out.bl) (HW.out.on HD.out.bl)).mono ?_
      rintro e w4 ⟨rfl, b4⟩
      have H4 := HD.out.on b4
      refine hK.out _ _ ⟨H4.a, H4.h⟩ (fun hHeld => ?_)
      clear hK K
      refine wpAnyH_take (i := 2) (oi := { dst := some 20, op := Op.binOp BinOp.neq 9 (Operand.tmp 19) (Operand.const (Value.string { data := #[51, 32, 111, 107, 10] })) 9, type := 4, pos := "law.go:25", after := #[{ on := 1, ground := Ground.data }], guard := none }) (v := ?_) rfl (by kernel_rfl) (by kernel_rfl) (by kernel_rfl) (fun _ _ _ h => h) (Or.inl ⟨by rfl, ?_⟩) (by assumption) ?_
      rotate_left
      · (intro w hSw; (try dsimp only at hSw); go_simp); first | done | with_reducible rfl
      simp only [Act.put, List.setIfInBounds_toArray, List.set_cons_zero, List.set_cons_succ]
      refine wpAnyH_take (i := 3) (oi := { dst := some 21, op := Op.move (Operand.tmp 20), type := 4, pos := "law.go:25", after := #[{ on := 2, ground := Ground.data }, { on := 1, ground := Ground.chain }], guard := none }) (v := ?_) rfl (by kernel_rfl) (by kernel_rfl) (by kernel_rfl) (fun _ _ _ h => h) (Or.inl ⟨by rfl, ?_⟩) (by assumption) ?_
      rotate_left
      · (intro w hSw; (try dsimp only at hSw); go_simp); first | done | with_reducible rfl
      simp only [Act.put, List.setIfInBounds_toArray, List.set_cons_zero, List.set_cons_succ]
      refine wpAnyH_take (i := 4) (oi := { dst := some 22, op := Op.move (Operand.tmp 0), type := 3, pos := "law.go:25", after := #[{ on := 3, ground := Ground.guard }], guard := some (3, false) }) (v := ?_) rfl (by kernel_rfl) (by kernel_rfl) (by kernel_rfl) (fun _ _ _ h => h) (Or.inl ⟨by rfl, ?_⟩) (by assumption) ?_
      rotate_left
      · (intro w hSw; (try dsimp only at hSw); go_simp); first | done | with_reducible rfl
      simp only [Act.put, List.setIfInBounds_toArray, List.set_cons_zero, List.set_cons_succ]
      refine wpAnyH_take (i := 5) (oi := { dst := some 23, op := Op.load 28 (Operand.tmp 5), type := 28, pos := "law.go:25", after := #[{ on := 3, ground := Ground.guard }], guard := some (3, false) }) (v := ?_) rfl (by kernel_rfl) (by kernel_rfl) (by kernel_rfl) (fun _ _ _ h => h) (Or.inl ⟨by rfl, ?_⟩) (by assumption) ?_
      rotate_left
      · (intro w hSw; (try dsimp only at hSw); have hl := run_ldAn hSw.2; go_simp); first | done | with_reducible rfl
      simp only [Act.put, List.setIfInBounds_toArray, List.set_cons_zero, List.set_cons_succ]
      refine wpAnyH_take (i := 7) (oi := { dst := some 25, op := Op.move (Operand.tmp 0), type := 3, pos := "law.go:25", after := #[{ on := 3, ground := Ground.guard }], guard := some (3, false) }) (v := ?_) rfl (by kernel_rfl) (by kernel_rfl) (by kernel_rfl) (fun _ _ _ h => h) (Or.inl ⟨by rfl, ?_⟩) (by assumption) ?_
      rotate_left
      · (intro w hSw; (try dsimp only at hSw); go_simp); first | done | with_reducible rfl
      simp only [Act.put, List.setIfInBounds_toArray, List.set_cons_zero, List.set_cons_succ]
      refine wpAnyH_take (i := 8) (oi := { dst := some 26, op := Op.load 28 (Operand.tmp 3), type := 28, pos := "law.go:25", after := #[{ on := 3, ground := Ground.guard }], guard := some (3, false) }) (v := ?_) rfl (by kernel_rfl) (by kernel_rfl) (by kernel_rfl) (fun _ _ _ h => h) (Or.inl ⟨by rfl, ?_⟩) (by assumption) ?_
      rotate_left
      · (intro w hSw; (try dsimp only at hSw); have hl := run_ldAn hSw.1; go_simp); first | done | with_reducible rfl
      simp only [Act.put, List.setIfInBounds_toArray, List.set_cons_zero, List.set_cons_succ]
      refine wpAnyH_ready (rs := [6]) (by kernel_rfl) (by simp) ?_
      refine AllReadyH.cons rfl (fun K hK => ?_) ?_
      rotate_left
      · exact AllReadyH.nil
      go_simp
      go_wp2_with fail
      refine (HC2.out _ bo cc (HT.out.on H4.bl) (HW.out.on H4.bl) H4.sh).mono ?_
      rintro e w5 ⟨rfl, b5⟩
      have H5 := H4.on b5
      refine hK.out _ _ ⟨H5.a, H5.h⟩ (fun hHeld => ?_)
      clear hK K
      refine wpAnyH_ready (rs := [9]) (by kernel_rfl) (by simp) ?_
      refine AllReadyH.cons rfl (fun K hK => ?_) ?_
      rotate_left
      · exact AllReadyH.nil
      go_simp
      go_wp2_with fail
      refine (HC3.out _ H5.sa).mono ?_
      rintro e w6 ⟨rfl, b6⟩
      have H6 := H5.on b6
      refine hK.out _ _ ⟨H6.a, H6.h⟩ (fun hHeld => ?_)
      clear hK K
      refine wpAnyH_take (i := 10) (oi := { dst := some 28, op := Op.binOp BinOp.neq 9 (Operand.tmp 24) (Operand.tmp 27) 9, type := 4, pos := "law.go:25", after := #[{ on := 6, ground := Ground.data }, { on := 9, ground := Ground.data }, { on := 3, ground := Ground.guard }], guard := some (3, false) }) (v := ?_) rfl (by kernel_rfl) (by kernel_rfl) (by kernel_rfl) (fun _ _ _ h => h) (Or.inl ⟨by rfl, ?_⟩) (by assumption) ?_
      rotate_left
      · (intro w hSw; (try dsimp only at hSw); go_simp); first | done | with_reducible rfl
      simp only [Act.put, List.setIfInBounds_toArray, List.set_cons_zero, List.set_cons_succ]
      refine wpAnyH_take (i := 11) (oi := { dst := some 29, op := Op.pick (Operand.tmp 21) (Operand.const (Value.bool true)) (Operand.tmp 28), type := 4, pos := "law.go:25", after := #[{ on := 3, ground := Ground.data }, { on := 10, ground := Ground.data }], guard := none }) (v := ?_) rfl (by kernel_rfl) (by kernel_rfl) (by kernel_rfl) (fun _ _ _ h => h) (Or.inl ⟨by rfl, ?_⟩) (by assumption) ?_
      rotate_left
      · (intro w hSw; (try dsimp only at hSw); go_simp); first | done | with_reducible rfl
      simp only [Act.put, List.setIfInBounds_toArray, List.set_cons_zero, List.set_cons_succ]
      refine wpAnyH_done (by kernel_rfl) ?_ _
      clear hHeld
      have HF := hide H6
      go_wp2_with fail
      go_meet
      exact ⟨rfl, HF⟩
    case rest =>
      obtain ⟨rfl, HG⟩ := hcut
      clear HC1 HC2 HC3 HH
      have e0 := HG.out.a.c1
      simp only at e0
      go_wp2_with fail
      go_loopw [33] (fun u wr => ∃ k : Nat, k ≤ n ∧ u = .int .i64 (k : Int) ∧ Hid (Hw w wr w.heap.size gh st tok msg lno bo n c cc Q)) (fun u _ => n - (intOf u).toNat)
      case atStart => exact ⟨0, by omega, rfl, HG⟩
      case round =>
        clear HG e0
        obtain ⟨k, hk, rfl, HG⟩ := hrel
        by_cases hlt : k < n
        · obtain ⟨ad, rfl, xa⟩ := HG.out.sa.at k hlt
          obtain ⟨bd, rfl, xb⟩ := HG.out.sh.at k hlt
          obtain ⟨q, hq⟩ : ∃ q, Q.getD k ln0 = q := ⟨_, rfl⟩
          rw [hq] at xa xb
          obtain ⟨sku, qty, parts⟩ := q
          go_wp2_with fail
          refine wp_region_held_drew (S := fun v => (v.cell? ⟨w.heap.size, 1, none⟩ = some (.slice (some ad) n c) ∧ v.cell? ⟨gh, 1, none⟩ = some (.slice (some bd) n cc)) ∧ LnAt v (ad.add (k * 3)) ⟨sku, qty, parts⟩ ∧ LnAt v (bd.add (k * 3)) ⟨sku, qty, parts⟩) (by kernel_rfl) (⟨⟨HG.out.a.c1, HG.out.h.c1⟩, xa.on (below_drew1 wr), xb.on (below_drew1 wr)⟩) (fun hHeld => ?_)
          refine wpAnyH_take (i := 0) (oi := { dst := some 36, op := Op.fieldAddr 28 (Operand.tmp 5) 1, type := 0, pos := "law.go:29", after := #[], guard := none }) (v := ?_) rfl (by kernel_rfl) (by kernel_rfl) (by kernel_rfl) (fun _ _ _ h => h) (Or.inl ⟨by rfl, ?_⟩) (by assumption) ?_
          rotate_left
          · (intro w hSw; (try dsimp only at hSw); obtain ⟨⟨u1, u2⟩, u3, u4⟩ := hSw; have l1 : (ldLn (.pointer (some (ad.add (k * 3))))).run Tryd.prog w = .ok (.agg #[.string sku, .int .i64 qty, .int .i64 parts]) w := run_laLn u3; have l2 : (ldLn (.pointer (some (bd.add (k * 3))))).run Tryd.prog w = .ok (.agg #[.string sku, .int .i64 qty, .int .i64 parts]) w := run_laLn u4; clear u3 u4; go_simp); first | done | with_reducible rfl
          simp only [Act.put, List.setIfInBounds_toArray, List.set_cons_zero, List.set_cons_succ]
          refine wpAnyH_take (i := 1) (oi := { dst := some 37, op := Op.load 26 (Operand.tmp 36), type := 26, pos := "law.go:29", after := #[{ on := 0, ground := Ground.data }], guard := none }) (v := ?_) rfl (by kernel_rfl) (by kernel_rfl) (by kernel_rfl) (fun _ _ _ h => h) (Or.inl ⟨by rfl, ?_⟩) (by assumption) ?_
          rotate_left
          · (intro w hSw; (try dsimp only at hSw); obtain ⟨⟨u1, u2⟩, u3, u4⟩ := hSw; have l1 : (ldLn (.pointer (some (ad.add (k * 3))))).run Tryd.prog w = .ok (.agg #[.string sku, .int .i64 qty, .int .i64 parts]) w := run_laLn u3; have l2 : (ldLn (.pointer (some (bd.add (k * 3))))).run Tryd.prog w = .ok (.agg #[.string sku, .int .i64 qty, .int .i64 parts]) w := run_laLn u4; clear u3 u4; go_simp); first | done | with_reducible rfl
          simp only [Act.put, List.setIfInBounds_toArray, List.set_cons_zero, List.set_cons_succ]
          refine wpAnyH_take (i := 2) (oi := { dst := some 38, op := Op.move (Operand.tmp 6), type := 3, pos := "law.go:29", after := #[], guard := none }) (v := ?_) rfl (by kernel_rfl) (by kernel_rfl) (by kernel_rfl) (fun _ _ _ h => h) (Or.inl ⟨by rfl, ?_⟩) (by assumption) ?_
          rotate_left
          · (intro w hSw; (try dsimp only at hSw); obtain ⟨⟨u1, u2⟩, u3, u4⟩ := hSw; have l1 : (ldLn (.pointer (some (ad.add (k * 3))))).run Tryd.prog w = .ok (.agg #[.string sku, .int .i64 qty, .int .i64 parts]) w := run_laLn u3; have l2 : (ldLn (.pointer (some (bd.add (k * 3))))).run Tryd.prog w = .ok (.agg #[.string sku, .int .i64 qty, .int .i64 parts]) w := run_laLn u4; clear u3 u4; go_simp); first | done | with_reducible rfl
          simp only [Act.put, List.setIfInBounds_toArray, List.set_cons_zero, List.set_cons_succ]
          refine wpAnyH_take (i := 3) (oi := { dst := some 39, op := Op.indexAddr 26 (Operand.tmp 37) (Operand.tmp 38), type := 0, pos := "law.go:29", after := #[{ on := 1, ground := Ground.data }, { on := 2, ground := Ground.data }], guard := none }) (v := ?_) rfl (by kernel_rfl) (by kernel_rfl) (by kernel_rfl) (fun _ _ _ h => h) (Or.inl ⟨by rfl, ?_⟩) (by assumption) ?_
          rotate_left
          · (intro w hSw; (try dsimp only at hSw); obtain ⟨⟨u1, u2⟩, u3, u4⟩ := hSw; have l1 : (ldLn (.pointer (some (ad.add (k * 3))))).run Tryd.prog w = .ok (.agg #[.string sku, .int .i64 qty, .int .i64 parts]) w := run_laLn u3; have l2 : (ldLn (.pointer (some (bd.add (k * 3))))).run Tryd.prog w = .ok (.agg #[.string sku, .int .i64 qty, .int .i64 parts]) w := run_laLn u4; clear u3 u4; go_simp); first | done | with_reducible rfl
          simp only [Act.put, List.setIfInBounds_toArray, List.set_cons_zero, List.set_cons_succ]
          refine wpAnyH_take (i := 4) (oi := { dst := some 40, op := Op.load 31 (Operand.tmp 39), type := 31, pos := "law.go:29", after := #[{ on := 3, ground := Ground.data }], guard := none }) (v := ?_) rfl (by kernel_rfl) (by kernel_rfl) (by kernel_rfl) (fun _ _ _ h => h) (Or.inl ⟨by rfl, ?_⟩) (by assumption) ?_
          rotate_left
          · (intro w hSw; (try dsimp only at hSw); obtain ⟨⟨u1, u2⟩, u3, u4⟩ := hSw; have l1 : (ldLn (.pointer (some (ad.add (k * 3))))).run Tryd.prog w = .ok (.agg #[.string sku, .int .i64 qty, .int .i64 parts]) w := run_laLn u3; have l2 : (ldLn (.pointer (some (bd.add (k * 3))))).run Tryd.prog w = .ok (.agg #[.string sku, .int .i64 qty, .int .i64 parts]) w := run_laLn u4; clear u3 u4; go_simp); first | done | with_reducible rfl
          simp only [Act.put, List.setIfInBounds_toArray, List.set_cons_zero, List.set_cons_succ]
          refine wpAnyH_take (i := 5) (oi := { dst := some 41, op := Op.fieldAddr 28 (Operand.tmp 3) 1, type := 0, pos := "law.go:29", after := #[], guard := none }) (v := ?_) rfl (by kernel_rfl) (by kernel_rfl) (by kernel_rfl) (fun _ _ _ h => h) (Or.inl ⟨by rfl, ?_⟩) (by assumption) ?_
          rotate_left
          · (intro w hSw; (try dsimp only at hSw); obtain ⟨⟨u1, u2⟩, u3, u4⟩ := hSw; have l1 : (ldLn (.pointer (some (ad.add (k * 3))))).run Tryd.prog w = .ok (.agg #[.string sku, .int .i64 qty, .int .i64 parts]) w := run_laLn u3; have l2 : (ldLn (.pointer (some (bd.add (k * 3))))).run Tryd.prog w = .ok (.agg #[.string sku, .int .i64 qty, .int .i64 parts]) w := run_laLn u4; clear u3 u4; go_simp); first | done | with_reducible rfl
          simp only [Act.put, List.setIfInBounds_toArray, List.set_cons_zero, List.set_cons_succ]
          refine wpAnyH_take (i := 6) (oi := { dst := some 42, op := Op.load 26 (Operand.tmp 41), type := 26, pos := "law.go:29", after := #[{ on := 5, ground := Ground.data }], guard := none }) (v := ?_) rfl (by kernel_rfl) (by kernel_rfl) (by kernel_rfl) (fun _ _ _ h => h) (Or.inl ⟨by rfl, ?_⟩) (by assumption) ?_
          rotate_left
          · (intro w hSw; (try dsimp only at hSw); obtain ⟨⟨u1, u2⟩, u3, u4⟩ := hSw; have l1 : (ldLn (.pointer (some (ad.add (k * 3))))).run Tryd.prog w = .ok (.agg #[.string sku, .int .i64 qty, .int .i64 parts]) w := run_laLn u3; have l2 : (ldLn (.pointer (some (bd.add (k * 3))))).run Tryd.prog w = .ok (.agg #[.string sku, .int .i64 qty, .int .i64 parts]) w := run_laLn u4; clear u3 u4; go_simp); first | done | with_reducible rfl
          simp only [Act.put, List.setIfInBounds_toArray, List.set_cons_zero, List.set_cons_succ]
          refine wpAnyH_take (i := 7) (oi := { dst := some 43, op := Op.move (Operand.tmp 6), type := 3, pos := "law.go:29", after := #[], guard := none }) (v := ?_) rfl (by kernel_rfl) (by kernel_rfl) (by kernel_rfl) (fun _ _ _ h => h) (Or.inl ⟨by rfl, ?_⟩) (by assumption) ?_
          rotate_left
          · (intro w hSw; (try dsimp only at hSw); obtain ⟨⟨u1, u2⟩, u3, u4⟩ := hSw; have l1 : (ldLn (.pointer (some (ad.add (k * 3))))).run Tryd.prog w = .ok (.agg #[.string sku, .int .i64 qty, .int .i64 parts]) w := run_laLn u3; have l2 : (ldLn (.pointer (some (bd.add (k * 3))))).run Tryd.prog w = .ok (.agg #[.string sku, .int .i64 qty, .int .i64 parts]) w := run_laLn u4; clear u3 u4; go_simp); first | done | with_reducible rfl
          simp only [Act.put, List.setIfInBounds_toArray, List.set_cons_zero, List.set_cons_succ]
          refine wpAnyH_take (i := 8) (oi := { dst := some 44, op := Op.indexAddr 26 (Operand.tmp 42) (Operand.tmp 43), type := 0, pos := "law.go:29", after := #[{ on := 6, ground := Ground.data }, { on := 7, ground := Ground.data }], guard := none }) (v := ?_) rfl (by kernel_rfl) (by kernel_rfl) (by kernel_rfl) (fun _ _ _ h => h) (Or.inl ⟨by rfl, ?_⟩) (by assumption) ?_
          rotate_left
          · (intro w hSw; (try dsimp only at hSw); obtain ⟨⟨u1, u2⟩, u3, u4⟩ := hSw; have l1 : (ldLn (.pointer (some (ad.add (k * 3))))).run Tryd.prog w = .ok (.agg #[.string sku, .int .i64 qty, .int .i64 parts]) w := run_laLn u3; have l2 : (ldLn (.pointer (some (bd.add (k * 3))))).run Tryd.prog w = .ok (.agg #[.string sku, .int .i64 qty, .int .i64 parts]) w := run_laLn u4; clear u3 u4; go_simp); first | done | with_reducible rfl
          simp only [Act.put, List.setIfInBounds_toArray, List.set_cons_zero, List.set_cons_succ]
          refine wpAnyH_take (i := 9) (oi := { dst := some 45, op := Op.load 31 (Operand.tmp 44), type := 31, pos := "law.go:29", after := #[{ on := 8, ground := Ground.data }], guard := none }) (v := ?_) rfl (by kernel_rfl) (by kernel_rfl) (by kernel_rfl) (fun _ _ _ h => h) (Or.inl ⟨by rfl, ?_⟩) (by assumption) ?_
          rotate_left
          · (intro w hSw; (try dsimp only at hSw); obtain ⟨⟨u1, u2⟩, u3, u4⟩ := hSw; have l1 : (ldLn (.pointer (some (ad.add (k * 3))))).run Tryd.prog w = .ok (.agg #[.string sku, .int .i64 qty, .int .i64 parts]) w := run_laLn u3; have l2 : (ldLn (.pointer (some (bd.add (k * 3))))).run Tryd.prog w = .ok (.agg #[.string sku, .int .i64 qty, .int .i64 parts]) w := run_laLn u4; clear u3 u4; go_simp); first | done | with_reducible rfl
          simp only [Act.put, List.setIfInBounds_toArray, List.set_cons_zero, List.set_cons_succ]
          refine wpAnyH_take (i := 10) (oi := { dst := some 46, op := Op.binOp BinOp.neq 31 (Operand.tmp 40) (Operand.tmp 45) 31, type := 4, pos := "law.go:29", after := #[{ on := 4, ground := Ground.data }, { on := 9, ground := Ground.data }], guard := none }) (v := ?_) rfl (by kernel_rfl) (by kernel_rfl) (by kernel_rfl) (fun _ _ _ h => h) (Or.inl ⟨by rfl, ?_⟩) (by assumption) ?_
          rotate_left
          · (intro w hSw; (try dsimp only at hSw); have n1 := run_neLn sku qty parts; have n2 := run_egLn sku qty parts; go_simp); first | done | with_reducible rfl
          simp only [Act.put, List.setIfInBounds_toArray, List.set_cons_zero, List.set_cons_succ]
          refine wpAnyH_done (by kernel_rfl) ?_ _
          clear hHeld
          have HG2 := hide (HG.out.on (below_drew1 wr))
          go_wp2_with fail
          go_roundw
          case rel => exact ⟨k + 1, by omega, by go_num, HG2⟩
          case measure => simp [intOf]; omega
        · go_wp2_with fail
          go_ret
          exact ⟨rfl, HG.out.bl⟩
end Go.Proofs.YtheiblagjeekjaaDoor
