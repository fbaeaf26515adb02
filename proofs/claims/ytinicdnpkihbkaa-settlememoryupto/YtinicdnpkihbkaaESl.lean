/- The law's sameInts, sameLists, refPairs. -/
import Derived.Test.YtinicdnpkihbkaaERf
import Derived.Test.YtinicdnpkihbkaaESp
namespace Go.Proofs.Ytinicdnpkihbkaa
open Go.RowKit
variable {w w' w2 w0 wr : World} {g n : Nat} {F : Nat → Sl} {X Y : Nat → List Int}

/-- rows of rows that are read -/
structure MSrc (w : World) (ao : Option Addr) (n : Nat) (X : Nat → List Int) : Prop where
  at' : ∀ i, i < n → ∃ ad fa fn fc, ao = some ad ∧ w.cell? (ad.add i) = some (.slice fa fn fc) ∧ NSrc w fa fn fc (X i)
theorem MSrc.below {ao : Option Addr} (h : MSrc w ao n X) (hb : Below w.heap.size w w2) : MSrc w2 ao n X := ⟨fun i hi => by
  obtain ⟨ad, fa, fn, fc, e, c, s⟩ := h.at' i hi
  exact ⟨ad, fa, fn, fc, e, (hb.cell (World.block_lt_of_cell? w _ c)).trans c, s.below hb⟩⟩
theorem MSrc.congr {ao : Option Addr} (h : MSrc w ao n X) (e : ∀ i, i < n → X i = Y i) : MSrc w ao n Y := ⟨fun i hi => by
  obtain ⟨ad, fa, fn, fc, e1, c, s⟩ := h.at' i hi
  exact ⟨ad, fa, fn, fc, e1, c, by rw [← e i hi]; exact s⟩⟩
theorem Mat.src (h : Mat w0 w g n F X) : MSrc w (some ⟨g, 0, none⟩) n X := ⟨fun i hi => ⟨_, _, _, _, rfl, by rw [Addr.add_lit, Nat.zero_add]; exact h.cell i hi, (h.row i hi).src⟩⟩
set_option maxRecDepth 100000 in
theorem sameInts_true (ao : Option Addr) (n c : Nat) (Y : List Int) (bo : Option Addr) (m c' : Nat) (w : World) (hY : NSrc w ao n c Y) (hZ : NSrc w bo m c' Y) (hn : n ≤ 140737488355328) :
    Calls Try.prog 23 #[.slice ao n c, .slice bo m c'] w fun e w' => e = .returned (.bool true) ∧ Below w.heap.size w w' := by
  obtain rfl : n = m := by rw [← hY.len, ← hZ.len]
  have HY := hide hY
  have HZ := hide hZ
  clear hY hZ
  go_enter Try.func23, Try.ntmps23
  go_wp2_with fail
  go_loopw [13] (fun i wr => ∃ k : Nat, k ≤ n ∧ i = .int .i64 k ∧ Hid (Below w.heap.size w wr)) (fun i _ => n - (intOf i).toNat)
  case atStart => exact ⟨0, Nat.zero_le _, rfl, Below.refl _ _⟩
  case round =>
    obtain ⟨k, hk, rfl, HB⟩ := hrel
    by_cases hlt : k < n
    · obtain ⟨ad, rfl, c1⟩ := (HY.out.below HB.out).at k hlt
      obtain ⟨bd, rfl, c2⟩ := (HZ.out.below HB.out).at k hlt
      obtain ⟨z, hz⟩ : ∃ z, Y.getD k 0 = z := ⟨_, rfl⟩
      rw [hz] at c1 c2
      clear hz
      go_wp2_with fail
      go_quiet (fail)
      have HB' := hide (HB.out.trans ((below_drewN wr nq).mono HB.out.size))
      clear HB
      go_wp2_with fail
      go_roundw
      case rel => exact ⟨k + 1, by omega, by go_num, HB'⟩
      case measure => simp [intOf]; omega
    · go_wp2_with fail
      go_ret
      exact ⟨rfl, HB.out⟩
set_option maxRecDepth 100000 in
theorem sameLists_true (ao : Option Addr) (n c : Nat) (X : Nat → List Int) (bo : Option Addr) (c' : Nat) (w : World) (hY : MSrc w ao n X) (hZ : MSrc w bo n X) (hn : n ≤ 16) (hx : ∀ i, (X i).length ≤ 1000) :
    Calls Try.prog 10 #[.slice ao n c, .slice bo n c'] w fun e w' => e = .returned (.bool true) ∧ Below w.heap.size w w' := by
  have HY := hide hY
  have HZ := hide hZ
  have HX := hide hx
  clear hY hZ hx
  go_enter Try.func10, Try.ntmps10
  go_wp2_with fail
  go_loopw [13] (fun i wr => ∃ k : Nat, k ≤ n ∧ i = .int .i64 k ∧ Hid (Below w.heap.size w wr)) (fun i _ => n - (intOf i).toNat)
  case atStart => exact ⟨0, Nat.zero_le _, rfl, Below.refl _ _⟩
  case round =>
    obtain ⟨k, hk, rfl, HB⟩ := hrel
    by_cases hlt : k < n
    · have HB5 := hide (HB.out.trans ((below_drew1 wr).mono HB.out.size))
      obtain ⟨ad, fa, fn, fc, rfl, c1, s1⟩ := (HY.out.below HB5.out).at' k hlt
      obtain ⟨bd, ha, hb, hc, rfl, c2, s2⟩ := (HZ.out.below HB5.out).at' k hlt
      have HS1 := hide s1
      have HS2 := hide s2
      have HC1 := hide c1
      have HC2 := hide c2
      clear s1 s2 c1 c2
      go_wp2_with fail
      refine wp_region_held_drew (S := fun W => W.cell? (ad.add k) = some (.slice fa fn fc) ∧ W.cell? (bd.add k) = some (.slice ha hb hc)) (by kernel_rfl) (⟨HC1.out, HC2.out⟩) (fun hHeld => ?_)
      refine wpAnyH_take (i := 0) (oi := { dst := some 16, op := Op.move (Operand.tmp 0), type := 31, pos := "law.go:61", after := #[], guard := none }) (v := ?_) rfl (by kernel_rfl) (by kernel_rfl) (by kernel_rfl) (fun _ _ _ h => h) (Or.inl ⟨by rfl, ?_⟩) (by assumption) ?_
      rotate_left
      · (intro w hSw; (try dsimp only at hSw); go_simp); first | done | with_reducible rfl
      simp only [Act.put, List.setIfInBounds_toArray, List.set_cons_zero, List.set_cons_succ]
      refine wpAnyH_take (i := 1) (oi := { dst := some 17, op := Op.move (Operand.tmp 5), type := 3, pos := "law.go:61", after := #[], guard := none }) (v := ?_) rfl (by kernel_rfl) (by kernel_rfl) (by kernel_rfl) (fun _ _ _ h => h) (Or.inl ⟨by rfl, ?_⟩) (by assumption) ?_
      rotate_left
      · (intro w hSw; (try dsimp only at hSw); go_simp); first | done | with_reducible rfl
      simp only [Act.put, List.setIfInBounds_toArray, List.set_cons_zero, List.set_cons_succ]
      refine wpAnyH_take (i := 2) (oi := { dst := some 18, op := Op.indexAddr 31 (Operand.tmp 16) (Operand.tmp 17), type := 0, pos := "law.go:61", after := #[{ on := 0, ground := Ground.data }, { on := 1, ground := Ground.data }], guard := none }) (v := ?_) rfl (by kernel_rfl) (by kernel_rfl) (by kernel_rfl) (fun _ _ _ h => h) (Or.inl ⟨by rfl, ?_⟩) (by assumption) ?_
      rotate_left
      · (intro w hSw; (try dsimp only at hSw); go_simp); first | done | with_reducible rfl
      simp only [Act.put, List.setIfInBounds_toArray, List.set_cons_zero, List.set_cons_succ]
      refine wpAnyH_take (i := 3) (oi := { dst := some 19, op := Op.load 33 (Operand.tmp 18), type := 33, pos := "law.go:61", after := #[{ on := 2, ground := Ground.data }], guard := none }) (v := ?_) rfl (by kernel_rfl) (by kernel_rfl) (by kernel_rfl) (fun _ _ _ h => h) (Or.inl ⟨by rfl, ?_⟩) (by assumption) ?_
      rotate_left
      · (intro w hSw; (try dsimp only at hSw); go_simp); first | done | with_reducible rfl
      simp only [Act.put, List.setIfInBounds_toArray, List.set_cons_zero, List.set_cons_succ]
      refine wpAnyH_take (i := 4) (oi := { dst := some 20, op := Op.move (Operand.tmp 1), type := 31, pos := "law.go:61", after := #[], guard := none }) (v := ?_) rfl (by kernel_rfl) (by kernel_rfl) (by kernel_rfl) (fun _ _ _ h => h) (Or.inl ⟨by rfl, ?_⟩) (by assumption) ?_
      rotate_left
      · (intro w hSw; (try dsimp only at hSw); go_simp); first | done | with_reducible rfl
      simp only [Act.put, List.setIfInBounds_toArray, List.set_cons_zero, List.set_cons_succ]
      refine wpAnyH_take (i := 5) (oi := { dst := some 21, op := Op.move (Operand.tmp 5), type := 3, pos := "law.go:61", after := #[], guard := none }) (v := ?_) rfl (by kernel_rfl) (by kernel_rfl) (by kernel_rfl) (fun _ _ _ h => h) (Or.inl ⟨by rfl, ?_⟩) (by assumption) ?_
      rotate_left
      · (intro w hSw; (try dsimp only at hSw); go_simp); first | done | with_reducible rfl
      simp only [Act.put, List.setIfInBounds_toArray, List.set_cons_zero, List.set_cons_succ]
      refine wpAnyH_take (i := 6) (oi := { dst := some 22, op := Op.indexAddr 31 (Operand.tmp 20) (Operand.tmp 21), type := 0, pos := "law.go:61", after := #[{ on := 4, ground := Ground.data }, { on := 5, ground := Ground.data }], guard := none }) (v := ?_) rfl (by kernel_rfl) (by kernel_rfl) (by kernel_rfl) (fun _ _ _ h => h) (Or.inl ⟨by rfl, ?_⟩) (by assumption) ?_
      rotate_left
      · (intro w hSw; (try dsimp only at hSw); go_simp); first | done | with_reducible rfl
      simp only [Act.put, List.setIfInBounds_toArray, List.set_cons_zero, List.set_cons_succ]
      refine wpAnyH_take (i := 7) (oi := { dst := some 23, op := Op.load 33 (Operand.tmp 22), type := 33, pos := "law.go:61", after := #[{ on := 6, ground := Ground.data }], guard := none }) (v := ?_) rfl (by kernel_rfl) (by kernel_rfl) (by kernel_rfl) (fun _ _ _ h => h) (Or.inl ⟨by rfl, ?_⟩) (by assumption) ?_
      rotate_left
      · (intro w hSw; (try dsimp only at hSw); go_simp); first | done | with_reducible rfl
      simp only [Act.put, List.setIfInBounds_toArray, List.set_cons_zero, List.set_cons_succ]
      refine wpAnyH_ready (rs := [8]) (by kernel_rfl) (by simp) ?_
      refine AllReadyH.cons rfl (fun K hK => ?_) ?_
      rotate_left
      · exact AllReadyH.nil
      go_simp
      go_wp2_with fail
      refine (sameInts_true fa fn fc (X k) ha hb hc _ HS1.out HS2.out (by have := HS1.out.len; have := HX.out k; omega)).mono ?_
      rintro e w6 ⟨rfl, b6⟩
      have HB6 := hide (HB5.out.trans (b6.mono HB5.out.size))
      refine hK.out _ _ ⟨(b6.cell (World.block_lt_of_cell? _ _ HC1.out)).trans HC1.out, (b6.cell (World.block_lt_of_cell? _ _ HC2.out)).trans HC2.out⟩ (fun hHeld => ?_)
      clear hK K b6
      refine wpAnyH_take (i := 9) (oi := { dst := some 25, op := Op.unOp UnOp.not 4 (Operand.tmp 24), type := 4, pos := "law.go:61", after := #[{ on := 8, ground := Ground.data }], guard := none }) (v := ?_) rfl (by kernel_rfl) (by kernel_rfl) (by kernel_rfl) (fun _ _ _ h => h) (Or.inl ⟨by rfl, ?_⟩) (by assumption) ?_
      rotate_left
      · (intro w hSw; (try dsimp only at hSw); go_simp); first | done | with_reducible rfl
      simp only [Act.put, List.setIfInBounds_toArray, List.set_cons_zero, List.set_cons_succ]
      refine wpAnyH_done (by kernel_rfl) ?_ _
      clear hHeld
      clear HB HB5 HS1 HS2 HC1 HC2
      go_wp2_with fail
      go_roundw
      case rel => exact ⟨k + 1, by omega, by go_num, HB6⟩
      case measure => simp [intOf]; omega
    · go_wp2_with fail
      go_ret
      exact ⟨rfl, HB.out⟩
section
attribute [local go_sem ↓] ldP_eq stP_eq
set_option maxRecDepth 100000 in
theorem toRef_any (ao : Option Addr) (n c : Nat) (L : List Pr) (w : World) (S : PSrc w ao n c L) (hn : n ≤ 8796093022107) : Calls Try.prog 14 #[.slice ao n c] w fun e w' =>
    ∃ bo cc, e = .returned (.slice bo n cc) ∧ QR w' bo n cc (L.map toQ) ∧ NewB w w' bo := by
  have HL : Hid (L.length = n) := S.len
  have HS := hide S
  have HG1 := hide (GrQ.lit w)
  clear S
  go_enter Try.func14, Try.ntmps14
  go_wp2_with fail
  go_loopw [3, 9] (fun p i wr => ∃ (k : Nat) (bo : Option Addr) (m cc : Nat), k ≤ n ∧ i = .int .i64 k ∧ p = .slice bo m cc ∧ Hid (m = k) ∧ Hid (GrQ w wr bo m cc ((L.take k).map toQ))) (fun _ i _ => n - (intOf i).toNat)
  case atStart => exact ⟨0, _, 0, 0, Nat.zero_le _, rfl, rfl, rfl, HG1⟩
  case round =>
    clear HG1
    obtain ⟨k, bo, m, cc, hk, rfl, rfl, HK, HG⟩ := hrel
    by_cases hlt : k < n
    · obtain ⟨ad, rfl, x⟩ := (HS.out.below HG.out.a.1).at k hlt
      have hkL : k < L.length := by have := HL.out; omega
      have HT : Hid ((L.take (k + 1)).map toQ = (L.take k).map toQ ++ [toQ (L.getD k p0)]) := by
        show _ = _
        rw [List.take_succ_eq_append_getElem hkL, List.map_append]
        simp [List.getD, hkL]
      obtain ⟨q, hq⟩ : ∃ q, L.getD k p0 = q := ⟨_, rfl⟩
      rw [hq] at x HT
      obtain ⟨f, t⟩ := q
      have x0 : (ldP (.pointer (some (ad.add (k * 2))))).run Try.prog wr = .ok (.agg #[.int .i64 f, .int .i64 t]) wr := run_laP x
      obtain ⟨w3, hst, hbx, hbl, -⟩ := madeP wr ⟨f, t⟩ wr.heap.size rfl
      have hst' : (stP (.pointer (some ⟨wr.heap.size, 0, none⟩)) (.agg #[.int .i64 f, .int .i64 t])).run Try.prog (wr.alloc (.cells #[.int .i64 0, .int .i64 0] 28)) = .ok () w3 := hst
      have c0 := hbx.c0
      have c1 := hbx.c1
      simp only at c0 c1
      have HG3 := hide (HG.out.below hbl)
      have HR3 := hide HG3.out.r
      have HM : Hid (m + 1 ≤ 8796093022108) := by show _ ≤ _; have := HK.out; omega
      clear hst hbx hbl HG hq x hkL
      go_wp2_with (at_builtin; refine HR3.out.app (L := [⟨f, t⟩]) (m := 1) rfl (qcs_lit _ _) HM.out rfl (.tmp 13) (.tmp 19) rfl rfl rfl ?_; intro b4 c4 w4 R4 A4; have HG4 := hide (HG3.out.app R4 A4); clear R4 A4)
      go_roundw
      case rel => exact ⟨k + 1, b4, m + 1, c4, by omega, by go_num, rfl, by show _ = _; rw [HK.out], by show GrQ _ _ _ _ _ _; rw [HT.out]; exact HG4.out⟩
      case measure => simp [intOf]; omega
    · obtain rfl : k = n := by omega
      have HE : Hid (List.take k L = L) := List.take_of_length_le (by have := HL.out; omega)
      go_wp2_with fail
      go_ret
      rw [HE.out] at HG
      obtain rfl := HK.out
      exact ⟨_, _, rfl, HG.out.r, HG.out.a⟩
end
end Go.Proofs.Ytinicdnpkihbkaa
