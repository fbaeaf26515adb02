/- past's Of, of one dot: its contract. -/
import Derived.Test.YtdbkebcniicojaaPSd
import Derived.Test.YtdbkebcniicojaaPHa
import Derived.Test.YtdbkebcniicojaaPCa
import Derived.Deep.RegionHeldLaw
namespace Go.Proofs.Ytdbkebcniicojaa
open Go.RowKit
attribute [local go_sem ↓] ldP_eq stP_eq ldA_eq stA_eq ldD_eq stD_eq
attribute [local go_sem] zeros_SA cells_SAv zero_PC cells_PV fold_PC PC_size

/-- the set of one dot -/
def dot1 (k : Nat) (y : Nat) (num : Int) (r : Nat) : List Rn := if k = 0 then [] else if r = y then [⟨num, num⟩] else []
theorem dot1_step {y : Nat} {num : Int} (r : Nat) : (if r = y then dot1 0 y num r ++ [⟨num, num⟩] else dot1 0 y num r) = dot1 1 y num r := by
  by_cases h : r = y <;> simp [dot1, h]
/-- the variable of the sets, made at the end of w3; the rows behind it -/
structure SI2 (w3 W : World) (F : Nat → Sl) (G : Nat → List Rn) : Prop where
  s : Sets W w3.heap.size F
  o : OwnA (w3.heap.size + 1) W F
  l : ∀ r, r < 16 → (F r).L = G r
  b : Below w3.heap.size w3 W
  h : w3.heap.size + 1 ≤ W.heap.size
theorem SI2.on {w3 W W' : World} {F : Nat → Sl} {G : Nat → List Rn} (I : SI2 w3 W F G) (hb : Below W.heap.size W W') : SI2 w3 W' F G :=
  ⟨I.s.below hb, I.o.below hb, I.l, I.b.trans (hb.mono I.b.size), Nat.le_trans I.h hb.size⟩
theorem SI2.congr {w3 W : World} {F : Nat → Sl} {G G' : Nat → List Rn} (I : SI2 w3 W F G) (h : ∀ r, r < 16 → G r = G' r) : SI2 w3 W F G' :=
  ⟨I.s, I.o, fun r hr => (I.l r hr).trans (h r hr), I.b, I.h⟩
theorem SI2.mid {w3 W w2 : World} {F F' : Nat → Sl} {G : Nat → List Rn} (I : SI2 w3 W F G) (h2 : ∀ q, q < W.heap.size → Off F q → w2.heap[q]? = W.heap[q]? ∧ Off F' q) : Sets w2 w3.heap.size F :=
  ((h2 _ (by have := I.h; omega) (I.o.off _ (Or.inl (by omega)))).1).trans I.s
theorem SI2.push {w3 W w2 : World} {F : Nat → Sl} {G : Nat → List Rn} (I : SI2 w3 W F G) (k : Nat) (_ : k < 16) (e : Rn) (n cap2 g : Nat)
    (O2 : OwnA (w3.heap.size + 1) w2 (Fset F k ⟨some ⟨g, 0, none⟩, n + 1, cap2, (F k).L ++ [e]⟩)) (h2 : ∀ q, q < W.heap.size → Off F q → w2.heap[q]? = W.heap[q]? ∧ Off (Fset F k ⟨some ⟨g, 0, none⟩, n + 1, cap2, (F k).L ++ [e]⟩) q) (h3 : W.heap.size < w2.heap.size) (h4 : ∀ n0 w0, n0 ≤ w3.heap.size + 1 → Below n0 w0 W → Below n0 w0 w2) (v : Value) (hv : v = .slice (some ⟨g, 0, none⟩) (n + 1) cap2) :
    SI2 w3 (w2.setCell ⟨w3.heap.size, k, none⟩ v) (Fset F k ⟨some ⟨g, 0, none⟩, n + 1, cap2, (F k).L ++ [e]⟩) (fun r => if r = k then G r ++ [e] else G r) := by
  have hh := I.h
  have other : ∀ q, q ≠ w3.heap.size → (w2.setCell ⟨w3.heap.size, k, none⟩ v).heap[q]? = w2.heap[q]? := fun q hq => by
    simp [World.setCell, Array.getElem?_modify, show ¬ w3.heap.size = q by omega]
  refine ⟨(I.mid h2).set k _ v hv, O2.kept (fun q hq hno => other q (fun e => hno ?_)), fun r hr => ?_, ?_, ?_⟩
  · rw [e]; exact O2.off _ (Or.inl (by omega))
  · by_cases h : r = k
    · subst h; rw [Fset_same, if_pos rfl, ← I.l r hr]
    · rw [Fset_other _ _ _ _ h, if_neg h, ← I.l r hr]
  · exact V.below_setCell (h4 _ _ (by omega) I.b) (by simp)
  · have : (w2.setCell ⟨w3.heap.size, k, none⟩ v).heap.size = w2.heap.size := by simp [World.setCell]
    omega
theorem perm_one {d : Rn} {d' : Array Rn} (h : d'.toList.Perm [d]) : d' = #[d] := by
  have := List.perm_singleton.1 h
  rw [← Array.toList_inj]
  exact this
set_option maxRecDepth 100000 in
set_option maxHeartbeats 4000000 in
theorem of1_any (ad : Addr) (y : Nat) (hy : y < 16) (num : Int) (h1 : 1 ≤ num) (h9 : num ≤ 1000000000) (w : World) (hS : RSrc w (some ad) 1 1 [⟨(y : Int), num⟩]) :
    Calls Try.prog 27 #[.slice (some ad) 1 1] w fun e w' => GivesP w w' e (CanonOf (dot1 1 y num)) := by
  have HB0 := hide (below_new w (.cells (PC pv0) 25))
  have HP0 := hide (pbox_new w pv0)
  have HS := hide (hS.below HB0.out)
  have HIS : Hid ((V.isR (y : Int) && (decide (1 ≤ num) && decide (num ≤ 1000000000))) = true) := by show _ = _; simp [V.isR, h1, h9]; omega
  clear hS
  go_enter Try.func27, Try.ntmps27
  go_wp2_with fail
  refine (cloneD_any ad 1 1 _ _ HS.out).mono ?_
  rintro e w2 ⟨ao, c2, rfl, O2⟩
  obtain ⟨ad2, rfl⟩ : ∃ ad2, ao = some ad2 := by
    cases ao with
    | some x => exact ⟨x, rfl⟩
    | none => have := (O2.src (by simp)).1.nil rfl; simp at this
  obtain ⟨M2, hb2, hc2, hm2⟩ := O2.mr
  have HO2 := hide O2.below
  have HM2 := hide M2
  have HBL := hide hb2
  have HC2 : Hid (1 ≤ c2 ∧ c2 ≤ maxLen) := ⟨by simpa using hc2, hm2⟩
  clear O2 M2 hb2 hc2 hm2 HS
  go_wp2_with fail
  refine (sortD_any ad2 c2 1 #[⟨(y : Int), num⟩] _ HM2.out rfl (by omega)).mono ?_
  rintro e w3 ⟨rfl, d', hp, hs, M3, b3⟩
  obtain rfl := perm_one hp
  have HB3 := hide (HB0.out.trans ((HO2.out.trans (b3.mono HBL.out)).mono HB0.out.size))
  have HP3 := hide (HP0.out.below (HO2.out.trans (b3.mono HBL.out)))
  have HR3 := hide (M3.rsrc 1 c2 rfl HC2.out.1 HC2.out.2 (by omega))
  have HZ3 : Hid (w.heap.size + 1 ≤ w3.heap.size) := by have := (HO2.out.trans (b3.mono HBL.out)).size; simp at this; exact this
  clear hp hs M3 b3 HM2 HBL HO2 HP0 HB0
  go_wp2_with (go_at_call 70; refine (compact1_any _ 1 c2 _ (by omega)).mono ?_; rintro e w4 ⟨rfl, rfl⟩)
  have HI0 : Hid (SI2 w3 (w3.alloc (.cells (SA fun _ => sl0) 54)) (fun _ => sl0) (dot1 0 y num)) := ⟨sets_new w3 _, OwnA.nil _ _, fun r _ => rfl, below_new w3 _, by simp⟩
  go_loopw [14] (fun i wr => ∃ (k : Nat) (F : Nat → Sl), k ≤ 1 ∧ i = .int .i64 k ∧ Hid (SI2 w3 wr F (dot1 k y num))) (fun i _ => 1 - (intOf i).toNat)
  case atStart => exact ⟨0, _, Nat.zero_le _, rfl, HI0⟩
  case round =>
    obtain ⟨k, F, hk, rfl, HI⟩ := hrel
    rename World => w6
    clear HI0
    by_cases hlt : k < 1
    · obtain rfl : k = 0 := by omega
      have A0 := (HR3.out.below HI.out.b).cell ad2 rfl 0 (by omega)
      have e00 : ([(⟨(y : Int), num⟩ : Rn)]).getD 0 rn0 = ⟨(y : Int), num⟩ := rfl
      rw [e00, Nat.zero_mul] at A0
      have hld := run_ldD A0
      rw [add_zero] at A0
      have hld0 := run_ldD A0
      rw [show ((0 : Nat) : Int) = 0 from rfl]
      obtain ⟨w7, hst, XD, b7, z7⟩ := madeD w6 ⟨(y : Int), num⟩ w6.heap.size rfl
      replace hst : (stD (.pointer (some ⟨w6.heap.size, 0, none⟩)) (RV ⟨(y : Int), num⟩)).run Try.prog (w6.alloc (.cells #[.int .i64 0, .int .i64 0] 40)) = .ok () w7 := hst
      have l7 := run_ldD XD.at
      have HX7 := hide XD
      have HI7 := hide (HI.out.on b7)
      have HOC := hide (HI.out.o.off w6.heap.size (Or.inr (Nat.le_refl _)))
      have HLT := hide HI.out.h
      clear A0 XD b7 z7 HI hlt hk
      go_wp2_with fail
      refine (isDotP_any ⟨(y : Int), num⟩ _).mono ?_
      rintro e w8 ⟨rfl, b8⟩
      dsimp only
      rw [HIS.out]
      have HI8 := hide (HI7.out.on b8)
      have HX8 := hide (HX7.out.below b8)
      have HGL := hide HX8.out.lt
      have m0 := HX8.out.at.c0
      have m1 : w8.cell? ⟨w6.heap.size, 1, none⟩ = some (.int .i64 num) := HX8.out.at.c1
      dsimp only at m0
      have HLN : Hid ((F y).n < 8796093022207) := by
        have h := HI8.out.o.len hy
        rw [HI8.out.l y hy] at h
        simp [dot1] at h
        show _ < _
        omega
      have c1 := HI8.out.s.cell y hy
      obtain ⟨sa, sn, sc, hf⟩ : ∃ sa sn sc, (F y).ao = sa ∧ (F y).n = sn ∧ (F y).cap = sc := ⟨_, _, _, rfl, rfl, rfl⟩
      rw [hf.1, hf.2.1, hf.2.2] at c1
      have c1n := ((below_new w8 (.cells #[.int .i64 num, .int .i64 num] 86)).cell (World.block_lt_of_cell? _ _ c1)).trans c1
      have c1d := ((below_new w8.drew (.cells #[.int .i64 num, .int .i64 num] 86)).cell (p := ⟨w3.heap.size, y, none⟩) (World.block_lt_of_cell? _ _ c1)).trans c1
      have HF := hide hf
      have y0 : (0 : Int) ≤ (y : Int) := by omega
      have y1 : (y : Int) < 16 := by omega
      have HSW : Hid (∀ W : World, W.heap[w6.heap.size]? = w8.heap[w6.heap.size]? → W.cell? ⟨w6.heap.size, 0, none⟩ = some (.int .i64 (y : Int)) ∧ W.cell? ⟨w6.heap.size, 1, none⟩ = some (.int .i64 num)) := fun W e1 =>
        ⟨(World.cell?_of_block e1).trans m0, (World.cell?_of_block e1).trans m1⟩
      clear hf b8 HI7 HX7 hld hld0 hst l7
      go_wp2_with fail
      refine wp_region_held_drew (S := fun W => W.cell? ⟨w6.heap.size, 0, none⟩ = some (.int .i64 (y : Int)) ∧ W.cell? ⟨w6.heap.size, 1, none⟩ = some (.int .i64 num)) (by kernel_rfl) (HSW.out _ rfl) (fun hHeld => ?_)
      refine wpAnyH_take (i := 0) (oi := { dst := some 20, op := Op.fieldAddr 40 (Operand.tmp 6) 0, type := 0, pos := "past.go:81", after := #[], guard := none }) (v := ?_) rfl (by kernel_rfl) (by kernel_rfl) (by kernel_rfl) (fun _ _ _ h => h) (Or.inl ⟨by rfl, ?_⟩) (by assumption) ?_
      rotate_left
      · (intro w hSw; (try dsimp only at hSw); go_simp); first | done | with_reducible rfl
      simp only [Act.put, List.setIfInBounds_toArray, List.set_cons_zero, List.set_cons_succ]
      refine wpAnyH_take (i := 1) (oi := { dst := some 21, op := Op.load 3 (Operand.tmp 20), type := 3, pos := "past.go:81", after := #[{ on := 0, ground := Ground.data }], guard := none }) (v := ?_) rfl (by kernel_rfl) (by kernel_rfl) (by kernel_rfl) (fun _ _ _ h => h) (Or.inl ⟨by rfl, ?_⟩) (by assumption) ?_
      rotate_left
      · (intro w hSw; (try dsimp only at hSw); go_simp); first | done | with_reducible rfl
      simp only [Act.put, List.setIfInBounds_toArray, List.set_cons_zero, List.set_cons_succ]
      refine wpAnyH_take (i := 2) (oi := { dst := some 22, op := Op.fieldAddr 40 (Operand.tmp 6) 0, type := 0, pos := "past.go:81", after := #[], guard := none }) (v := ?_) rfl (by kernel_rfl) (by kernel_rfl) (by kernel_rfl) (fun _ _ _ h => h) (Or.inl ⟨by rfl, ?_⟩) (by assumption) ?_
      rotate_left
      · (intro w hSw; (try dsimp only at hSw); go_simp); first | done | with_reducible rfl
      simp only [Act.put, List.setIfInBounds_toArray, List.set_cons_zero, List.set_cons_succ]
      refine wpAnyH_take (i := 3) (oi := { dst := some 23, op := Op.load 3 (Operand.tmp 22), type := 3, pos := "past.go:81", after := #[{ on := 2, ground := Ground.data }], guard := none }) (v := ?_) rfl (by kernel_rfl) (by kernel_rfl) (by kernel_rfl) (fun _ _ _ h => h) (Or.inl ⟨by rfl, ?_⟩) (by assumption) ?_
      rotate_left
      · (intro w hSw; (try dsimp only at hSw); go_simp); first | done | with_reducible rfl
      simp only [Act.put, List.setIfInBounds_toArray, List.set_cons_zero, List.set_cons_succ]
      refine wpAnyH_take (i := 4) (oi := { dst := some 24, op := Op.indexAddr 54 (Operand.tmp 4) (Operand.tmp 23), type := 0, pos := "past.go:81", after := #[{ on := 3, ground := Ground.data }], guard := none }) (v := ?_) rfl (by kernel_rfl) (by kernel_rfl) (by kernel_rfl) (fun _ _ _ h => h) (Or.inl ⟨by rfl, ?_⟩) (by assumption) ?_
      rotate_left
      · (intro w hSw; (try dsimp only at hSw); go_simp); first | done | with_reducible rfl
      simp only [Act.put, List.setIfInBounds_toArray, List.set_cons_zero, List.set_cons_succ]
      refine wpAnyH_take (i := 6) (oi := { dst := some 26, op := Op.fieldAddr 40 (Operand.tmp 6) 1, type := 0, pos := "past.go:81", after := #[], guard := none }) (v := ?_) rfl (by kernel_rfl) (by kernel_rfl) (by kernel_rfl) (fun _ _ _ h => h) (Or.inl ⟨by rfl, ?_⟩) (by assumption) ?_
      rotate_left
      · (intro w hSw; (try dsimp only at hSw); go_simp); first | done | with_reducible rfl
      simp only [Act.put, List.setIfInBounds_toArray, List.set_cons_zero, List.set_cons_succ]
      refine wpAnyH_take (i := 7) (oi := { dst := some 27, op := Op.load 3 (Operand.tmp 26), type := 3, pos := "past.go:81", after := #[{ on := 6, ground := Ground.data }], guard := none }) (v := ?_) rfl (by kernel_rfl) (by kernel_rfl) (by kernel_rfl) (fun _ _ _ h => h) (Or.inl ⟨by rfl, ?_⟩) (by assumption) ?_
      rotate_left
      · (intro w hSw; (try dsimp only at hSw); go_simp); first | done | with_reducible rfl
      simp only [Act.put, List.setIfInBounds_toArray, List.set_cons_zero, List.set_cons_succ]
      refine wpAnyH_take (i := 8) (oi := { dst := some 28, op := Op.fieldAddr 40 (Operand.tmp 6) 1, type := 0, pos := "past.go:81", after := #[], guard := none }) (v := ?_) rfl (by kernel_rfl) (by kernel_rfl) (by kernel_rfl) (fun _ _ _ h => h) (Or.inl ⟨by rfl, ?_⟩) (by assumption) ?_
      rotate_left
      · (intro w hSw; (try dsimp only at hSw); go_simp); first | done | with_reducible rfl
      simp only [Act.put, List.setIfInBounds_toArray, List.set_cons_zero, List.set_cons_succ]
      refine wpAnyH_take (i := 9) (oi := { dst := some 29, op := Op.load 3 (Operand.tmp 28), type := 3, pos := "past.go:81", after := #[{ on := 8, ground := Ground.data }], guard := none }) (v := ?_) rfl (by kernel_rfl) (by kernel_rfl) (by kernel_rfl) (fun _ _ _ h => h) (Or.inl ⟨by rfl, ?_⟩) (by assumption) ?_
      rotate_left
      · (intro w hSw; (try dsimp only at hSw); go_simp); first | done | with_reducible rfl
      simp only [Act.put, List.setIfInBounds_toArray, List.set_cons_zero, List.set_cons_succ]
      refine wpAnyH_take (i := 10) (oi := { dst := some 30, op := Op.build 86 #[(0, Operand.tmp 27), (1, Operand.tmp 29)], type := 86, pos := "past.go:81", after := #[{ on := 7, ground := Ground.data }, { on := 9, ground := Ground.data }], guard := none }) (v := ?_) rfl (by kernel_rfl) (by kernel_rfl) (by kernel_rfl) (fun _ _ _ h => h) (Or.inl ⟨by rfl, ?_⟩) (by assumption) ?_
      rotate_left
      · (intro w hSw; (try dsimp only at hSw); go_simp); first | done | with_reducible rfl
      simp only [Act.put, List.setIfInBounds_toArray, List.set_cons_zero, List.set_cons_succ]
      refine wpAnyH_ready (rs := [5, 11]) (by kernel_rfl) (by simp) ?_
      refine AllReadyH.cons rfl (fun K hK => ?_) ?_
      · go_simp
        refine hK.out _ _ (HSW.out _ rfl) (fun hHeld => ?_)
        clear hK K
        refine wpAnyH_ready (rs := [11]) (by kernel_rfl) (by simp) ?_
        refine AllReadyH.cons rfl (fun K hK => ?_) ?_
        rotate_left
        · exact AllReadyH.nil
        go_simp
        refine hK.out _ _ (HSW.out _ (Below.heap_alloc _ _ _ HGL.out)) (fun hHeld => ?_)
        clear hK K
        refine wpAnyH_ready (rs := [12]) (by kernel_rfl) (by simp) ?_
        refine AllReadyH.cons rfl (fun K hK => ?_) ?_
        rotate_left
        · exact AllReadyH.nil
        refine HI8.out.o.step HI8.out.h y hy ⟨num, num⟩ _ (by rfl) HLN.out (by rfl) (.tmp 25) (.tmp 31) (by rfl) sa sn sc HF.out (by rfl) _ (by rfl) (by rfl) ?_
        intro g6 c6 w9 O6 h2 h3 h4
        have d1 := (HI8.out.mid h2).cell y hy
        have d2 := (HI8.out.mid h2).frozen y
        have HP := hide (HI8.out.push y hy ⟨num, num⟩ sn c6 g6 O6 h2 h3 h4 _ rfl)
        have HK2 := hide (keep_off (B := w3.heap.size) (k := y) (v := .slice (some ⟨g6, 0, none⟩) (sn + 1) c6) h2 HGL.out HOC.out (by have := HLT.out; omega)).1
        refine hK.out _ _ (HSW.out _ (h2 _ HGL.out HOC.out).1) (fun hHeld => ?_)
        clear hK K
        refine wpAnyH_take (i := 13) (oi := { dst := some 33, op := Op.indexAddr 54 (Operand.tmp 4) (Operand.tmp 21), type := 0, pos := "past.go:81", after := #[{ on := 1, ground := Ground.data }, { on := 0, ground := Ground.phase }, { on := 1, ground := Ground.phase }, { on := 2, ground := Ground.phase }, { on := 3, ground := Ground.phase }, { on := 4, ground := Ground.phase }, { on := 5, ground := Ground.phase }, { on := 6, ground := Ground.phase }, { on := 7, ground := Ground.phase }, { on := 8, ground := Ground.phase }, { on := 9, ground := Ground.phase }, { on := 10, ground := Ground.phase }, { on := 11, ground := Ground.phase }, { on := 12, ground := Ground.phase }], guard := none }) (v := ?_) rfl (by kernel_rfl) (by kernel_rfl) (by kernel_rfl) (fun _ _ _ h => h) (Or.inl ⟨by rfl, ?_⟩) (by assumption) ?_
        rotate_left
        · (intro w hSw; (try dsimp only at hSw); go_simp); first | done | with_reducible rfl
        simp only [Act.put, List.setIfInBounds_toArray]
        refine wpAnyH_ready (rs := [14]) (by kernel_rfl) (by simp) ?_
        refine AllReadyH.cons rfl (fun K hK => ?_) ?_
        rotate_left
        · exact AllReadyH.nil
        go_simp
        refine hK.out _ _ (HSW.out _ HK2.out) (fun hHeld => ?_)
        clear hK K
        refine wpAnyH_done (by kernel_rfl) ?_ _
        clear hHeld O6 h2 h3 h4
        go_wp2_with fail
        go_roundw
        case rel => exact ⟨1, _, by omega, by go_num, HP.out.congr (fun r _ => dot1_step r)⟩
        case measure => simp [intOf]
      · refine AllReadyH.cons rfl (fun K hK => ?_) ?_
        rotate_left
        · exact AllReadyH.nil
        go_simp
        refine hK.out _ _ (HSW.out _ (Below.heap_alloc _ _ _ HGL.out)) (fun hHeld => ?_)
        clear hK K
        refine wpAnyH_ready (rs := [5]) (by kernel_rfl) (by simp) ?_
        refine AllReadyH.cons rfl (fun K hK => ?_) ?_
        rotate_left
        · exact AllReadyH.nil
        go_simp
        refine hK.out _ _ (HSW.out _ (Below.heap_alloc _ _ _ HGL.out)) (fun hHeld => ?_)
        clear hK K
        refine wpAnyH_ready (rs := [12]) (by kernel_rfl) (by simp) ?_
        refine AllReadyH.cons rfl (fun K hK => ?_) ?_
        rotate_left
        · exact AllReadyH.nil
        refine HI8.out.o.step HI8.out.h y hy ⟨num, num⟩ _ (by rfl) HLN.out (by rfl) (.tmp 25) (.tmp 31) (by rfl) sa sn sc HF.out (by rfl) _ (by rfl) (by rfl) ?_
        intro g6 c6 w9 O6 h2 h3 h4
        have d1 := (HI8.out.mid h2).cell y hy
        have d2 := (HI8.out.mid h2).frozen y
        have HP := hide (HI8.out.push y hy ⟨num, num⟩ sn c6 g6 O6 h2 h3 h4 _ rfl)
        have HK2 := hide (keep_off (B := w3.heap.size) (k := y) (v := .slice (some ⟨g6, 0, none⟩) (sn + 1) c6) h2 HGL.out HOC.out (by have := HLT.out; omega)).1
        refine hK.out _ _ (HSW.out _ (h2 _ HGL.out HOC.out).1) (fun hHeld => ?_)
        clear hK K
        refine wpAnyH_take (i := 13) (oi := { dst := some 33, op := Op.indexAddr 54 (Operand.tmp 4) (Operand.tmp 21), type := 0, pos := "past.go:81", after := #[{ on := 1, ground := Ground.data }, { on := 0, ground := Ground.phase }, { on := 1, ground := Ground.phase }, { on := 2, ground := Ground.phase }, { on := 3, ground := Ground.phase }, { on := 4, ground := Ground.phase }, { on := 5, ground := Ground.phase }, { on := 6, ground := Ground.phase }, { on := 7, ground := Ground.phase }, { on := 8, ground := Ground.phase }, { on := 9, ground := Ground.phase }, { on := 10, ground := Ground.phase }, { on := 11, ground := Ground.phase }, { on := 12, ground := Ground.phase }], guard := none }) (v := ?_) rfl (by kernel_rfl) (by kernel_rfl) (by kernel_rfl) (fun _ _ _ h => h) (Or.inl ⟨by rfl, ?_⟩) (by assumption) ?_
        rotate_left
        · (intro w hSw; (try dsimp only at hSw); go_simp); first | done | with_reducible rfl
        simp only [Act.put, List.setIfInBounds_toArray]
        refine wpAnyH_ready (rs := [14]) (by kernel_rfl) (by simp) ?_
        refine AllReadyH.cons rfl (fun K hK => ?_) ?_
        rotate_left
        · exact AllReadyH.nil
        go_simp
        refine hK.out _ _ (HSW.out _ HK2.out) (fun hHeld => ?_)
        clear hK K
        refine wpAnyH_done (by kernel_rfl) ?_ _
        clear hHeld O6 h2 h3 h4
        go_wp2_with fail
        go_roundw
        case rel => exact ⟨1, _, by omega, by go_num, HP.out.congr (fun r _ => dot1_step r)⟩
        case measure => simp [intOf]
    · obtain rfl : k = 1 := by omega
      have l9 := run_ldA HI.out.s
      have HSR : Hid (∀ r, r < 16 → RSrc w6 (F r).ao (F r).n (F r).cap (F r).L) := fun r hr => HI.out.o.src HI.out.h hr (by
        have h := HI.out.o.len hr
        rw [HI.out.l r hr] at h
        simp [dot1] at h
        split at h <;> simp at h <;> omega)
      have HFL : Hid (∀ r, r < 16 → (F r).L = dot1 1 y num r) := HI.out.l
      have b36 := hide HI.out.b
      go_wp2_with fail
      refine (canonical_any F _ HSR.out).mono ?_
      rintro e w8 ⟨p, rfl, S2, n2, b2, c2'⟩
      have bb := b36.out
      obtain ⟨s1, e1, e2, e3, e4⟩ := past_end (w := w) ((HP3.out.below bb).below b2) S2 (n2.mono (by have := bb.size; have := HZ3.out; omega)) (HB3.out.trans ((bb.trans (b2.mono bb.size)).mono HB3.out.size)) (Nat.le_refl _)
      have HE1 := hide e1
      have HE2 : Hid (GivesP w (w8.setRow w.heap.size (PC p)) (.returned (PV p)) (CanonOf (dot1 1 y num))) := ⟨p, rfl, e2, e3, e4, c2'.congr HFL.out⟩
      clear S2 n2 b2 c2' e1 e2 e3 e4 bb l9
      go_wp2_with fail
      exact bodyPost_ret (v := PV p) (resP Try.results27 rfl HE1.out) rfl HE2.out
end Go.Proofs.Ytdbkebcniicojaa
