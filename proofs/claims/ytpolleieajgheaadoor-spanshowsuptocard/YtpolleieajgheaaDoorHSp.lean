/- showRun and Show. -/
import Derived.Test.YtpolleieajgheaaDoorHSh
import Derived.Test.YtpolleieajgheaaDoorRNo
import Derived.Laws.MakeOwn
import Derived.Laws.OwnMore
import Derived.OrdersHeld
namespace Go.Proofs.YtpolleieajgheaaDoor
open Go.RowKit T Y
variable {w w' w2 : World} {g : Nat}
attribute [local go_sem ↓] ldR_eq stR_eq

theorem two_eq (a b : List UInt8) : bs a ++ bs [46, 46] ++ bs b = bs (a ++ [46, 46] ++ b) := by rw [bs_app, bs_app]
set_option maxRecDepth 100000 in
set_option maxHeartbeats 1600000 in
theorem showRun_any (r : Rn) (w : World) (h : Gd r) (ht : Tab w) : Calls Tryd.prog 7 #[.agg #[.int .i64 r.lo, .int .i64 r.hi]] w fun e w' => e = .returned (.string (bs (rnT r))) ∧ Below w.heap.size w w' := by
  obtain ⟨lo, hi⟩ := r
  have hlo : -9223372036854775808 ≤ lo ∧ lo ≤ 9223372036854775807 := by have h1 := h.lo; have h2 := h.le; have h3 := h.hi; simp only at h1 h2 h3; omega
  have hhi : -9223372036854775808 ≤ hi ∧ hi ≤ 9223372036854775807 := by have h1 := h.lo; have h2 := h.le; have h3 := h.hi; simp only at h1 h2 h3; omega
  obtain ⟨w1, hw1⟩ : ∃ w1, w.alloc (.cells #[.int .i64 lo, .int .i64 hi] 25) = w1 := ⟨_, rfl⟩
  have hbx : Box w1 w.heap.size 25 ⟨lo, hi⟩ := by rw [← hw1]; exact box_new w 25 ⟨lo, hi⟩
  have hbl : Below w.heap.size w w1 := by rw [← hw1]; exact below_new _ _
  have HC : Hid (∀ w, Tab w → Calls Tryd.prog 16 #[.int .i64 lo] w fun e w' => e = .returned (.string (bs (num lo))) ∧ Below w.heap.size w w') := fun w t => itoa_any lo hlo.1 hlo.2 w t
  have HD : Hid (∀ w, Tab w → Calls Tryd.prog 16 #[.int .i64 hi] w fun e w' => e = .returned (.string (bs (num hi))) ∧ Below w.heap.size w w') := fun w t => itoa_any hi hhi.1 hhi.2 w t
  have hn1 : (bs (num lo)).size ≤ 21 := by rw [bs_size]; exact num_len lo hlo.1 hlo.2
  have hn2 : (bs (num hi)).size ≤ 21 := by rw [bs_size]; exact num_len hi hhi.1 hhi.2
  have hs1 : (⟨#[46, 46]⟩ : ByteArray).size = 2 := rfl
  have X := hbx.at
  have c0 := X.c0
  have c1 := X.c1
  simp only [Addr.add_lit] at c0 c1
  have HX := hide hbx
  have HB := hide hbl
  have HT := hide ht
  clear hbx hbl ht X hlo hhi h
  by_cases hq : lo = hi
  · subst hq
    have HE : Hid (rnT ⟨lo, lo⟩ = num lo) := rnT_one rfl
    have HT1 := hide (HT.out.on HB.out)
    go_enter Tryd.func7, Tryd.ntmps7
    go_wp2_with (go_at_call 16; refine (HC.out _ HT1.out).mono ?_; rintro e w2 ⟨rfl, b2⟩)
    go_ret
    exact ⟨ret_str (by rw [HE.out]), HB.out.trans (b2.mono HB.out.size)⟩
  · have HE : Hid (bs (num lo) ++ bs [46, 46] ++ bs (num hi) = bs (rnT ⟨lo, hi⟩)) := by show _ = _; rw [rnT_two hq, two_eq]
    go_enter Tryd.func7, Tryd.ntmps7
    go_wp2_with fail
    refine wp_region_held_drew (S := fun v => v.cell? ⟨w.heap.size, 0, none⟩ = some (.int .i64 lo) ∧ v.cell? ⟨w.heap.size, 1, none⟩ = some (.int .i64 hi)) (by kernel_rfl) (⟨c0, c1⟩) (fun hHeld => ?_)
    refine wpAnyH_take (i := 0) (oi := { dst := some 11, op := Op.fieldAddr 25 (Operand.tmp 1) 0, type := 0, pos := "text.go:33", after := #[], guard := none }) (v := ?_) rfl (by kernel_rfl) (by kernel_rfl) (by kernel_rfl) (fun _ _ _ h => h) (Or.inl ⟨by rfl, ?_⟩) (by assumption) ?_
    rotate_left
    · (intro w hSw; (try dsimp only at hSw); go_simp); first | done | with_reducible rfl
    simp only [Act.put, List.setIfInBounds_toArray, List.set_cons_zero, List.set_cons_succ]
    refine wpAnyH_take (i := 1) (oi := { dst := some 12, op := Op.load 3 (Operand.tmp 11), type := 3, pos := "text.go:33", after := #[{ on := 0, ground := Ground.data }], guard := none }) (v := ?_) rfl (by kernel_rfl) (by kernel_rfl) (by kernel_rfl) (fun _ _ _ h => h) (Or.inl ⟨by rfl, ?_⟩) (by assumption) ?_
    rotate_left
    · (intro w hSw; (try dsimp only at hSw); go_simp); first | done | with_reducible rfl
    simp only [Act.put, List.setIfInBounds_toArray, List.set_cons_zero, List.set_cons_succ]
    refine wpAnyH_take (i := 4) (oi := { dst := some 15, op := Op.fieldAddr 25 (Operand.tmp 1) 1, type := 0, pos := "text.go:33", after := #[], guard := none }) (v := ?_) rfl (by kernel_rfl) (by kernel_rfl) (by kernel_rfl) (fun _ _ _ h => h) (Or.inl ⟨by rfl, ?_⟩) (by assumption) ?_
    rotate_left
    · (intro w hSw; (try dsimp only at hSw); go_simp); first | done | with_reducible rfl
    simp only [Act.put, List.setIfInBounds_toArray, List.set_cons_zero, List.set_cons_succ]
    refine wpAnyH_take (i := 5) (oi := { dst := some 16, op := Op.load 3 (Operand.tmp 15), type := 3, pos := "text.go:33", after := #[{ on := 4, ground := Ground.data }], guard := none }) (v := ?_) rfl (by kernel_rfl) (by kernel_rfl) (by kernel_rfl) (fun _ _ _ h => h) (Or.inl ⟨by rfl, ?_⟩) (by assumption) ?_
    rotate_left
    · (intro w hSw; (try dsimp only at hSw); go_simp); first | done | with_reducible rfl
    simp only [Act.put, List.setIfInBounds_toArray, List.set_cons_zero, List.set_cons_succ]
    refine wpAnyH_ready (rs := [2]) (by kernel_rfl) (by simp) ?_
    refine AllReadyH.cons rfl (fun K hK => ?_) ?_
    rotate_left
    · exact AllReadyH.nil
    go_simp
    go_wp2_with fail
    refine (HC.out _ (HT.out.on ((HB.out).trans ((below_drew1 w1).mono HB.out.size)))).mono ?_
    rintro e w2 ⟨rfl, b2⟩
    have B2 := (below_drew1 w1).trans b2
    have X2 := (HX.out.below B2).at
    have d0 := X2.c0
    have d1 := X2.c1
    simp only [Addr.add_lit] at d0 d1
    refine hK.out _ _ ⟨d0, d1⟩ (fun hHeld => ?_)
    clear hK K
    refine wpAnyH_take (i := 3) (oi := { dst := some 14, op := Op.binOp BinOp.add 9 (Operand.tmp 13) (Operand.const (Value.string { data := #[46, 46] })) 9, type := 9, pos := "text.go:33", after := #[{ on := 2, ground := Ground.data }], guard := none }) (v := ?_) rfl (by kernel_rfl) (by kernel_rfl) (by kernel_rfl) (fun _ _ _ h => h) (Or.inl ⟨by rfl, ?_⟩) (by assumption) ?_
    rotate_left
    · (intro w hSw; (try dsimp only at hSw); go_simp; rw [if_neg (by omega)]); first | done | with_reducible rfl
    simp only [Act.put, List.setIfInBounds_toArray, List.set_cons_zero, List.set_cons_succ]
    refine wpAnyH_ready (rs := [6]) (by kernel_rfl) (by simp) ?_
    refine AllReadyH.cons rfl (fun K hK => ?_) ?_
    rotate_left
    · exact AllReadyH.nil
    go_simp
    go_wp2_with fail
    refine (HD.out _ (HT.out.on (HB.out.trans (B2.mono HB.out.size)))).mono ?_
    rintro e w3 ⟨rfl, b3⟩
    have B3 := B2.trans (b3.mono B2.size)
    have X3 := (HX.out.below B3).at
    have e0 := X3.c0
    have e1 := X3.c1
    simp only [Addr.add_lit] at e0 e1
    refine hK.out _ _ ⟨e0, e1⟩ (fun hHeld => ?_)
    clear hK K
    refine wpAnyH_take (i := 7) (oi := { dst := some 18, op := Op.binOp BinOp.add 9 (Operand.tmp 14) (Operand.tmp 17) 9, type := 9, pos := "text.go:33", after := #[{ on := 3, ground := Ground.data }, { on := 6, ground := Ground.data }], guard := none }) (v := ?_) rfl (by kernel_rfl) (by kernel_rfl) (by kernel_rfl) (fun _ _ _ h => h) (Or.inl ⟨by rfl, ?_⟩) (by assumption) ?_
    rotate_left
    · (intro w hSw; (try dsimp only at hSw); go_simp; rw [if_neg (by omega)]); first | done | with_reducible rfl
    simp only [Act.put, List.setIfInBounds_toArray, List.set_cons_zero, List.set_cons_succ]
    refine wpAnyH_take (i := 8) (oi := { dst := some 2, op := Op.assign (Operand.tmp 18), type := 9, pos := "text.go:33", after := #[{ on := 7, ground := Ground.data }, { on := 6, ground := Ground.chain }, { on := 0, ground := Ground.phase }, { on := 1, ground := Ground.phase }, { on := 2, ground := Ground.phase }, { on := 3, ground := Ground.phase }, { on := 4, ground := Ground.phase }, { on := 5, ground := Ground.phase }, { on := 6, ground := Ground.phase }, { on := 7, ground := Ground.phase }], guard := none }) (v := ?_) rfl (by kernel_rfl) (by kernel_rfl) (by kernel_rfl) (fun _ _ _ h => h) (Or.inl ⟨by rfl, ?_⟩) (by assumption) ?_
    rotate_left
    · (intro w hSw; (try dsimp only at hSw); go_simp); first | done | with_reducible rfl
    simp only [Act.put, List.setIfInBounds_toArray, List.set_cons_zero, List.set_cons_succ]
    refine wpAnyH_done (by kernel_rfl) ?_ _
    clear hHeld
    go_wp2_with fail
    go_ret
    exact ⟨ret_str HE.out, HB.out.trans (B3.mono HB.out.size)⟩
/-- a row of texts, alone in its block -/
def Tx (w : World) (g : Nat) (L : List ByteArray) : Prop := w.heap[g]? = some (.cells (L.map Value.string).toArray 9 (0, 0))
theorem Tx.lt {L : List ByteArray} (h : Tx w g L) : g < w.heap.size := (Array.getElem?_eq_some_iff.1 h).1
theorem Tx.on {L : List ByteArray} (h : Tx w g L) (hb : Below w.heap.size w w') : Tx w' g L := (hb.block g h.lt).trans h
theorem Tx.cell {L : List ByteArray} (h : Tx w g L) (j : Nat) (x : ByteArray) (hj : L[j]? = some x) : w.cell? ⟨g, j, none⟩ = some (.string x) := by
  unfold Tx at h
  simp [World.cell?, h, hj]
theorem Tx.frozen {L : List ByteArray} (h : Tx w g L) (j : Nat) : w.frozen? ⟨g, j, none⟩ = false := by
  unfold Tx at h
  simp [World.frozen?, h]
theorem Tx.set {L : List ByteArray} (h : Tx w g L) (j : Nat) (x : ByteArray) : Tx (w.setCell ⟨g, j, none⟩ (.string x)) g (L.set j x) := by
  unfold Tx at h ⊢
  simp [World.setCell, Array.getElem?_modify, h, List.map_set]
theorem infoS : (Tryd.prog.info? 9).map (fun i => (i.zero, i.size, i.bytes)) = some (some (.string ⟨#[]⟩), 1, 16) := by kernel_rfl
theorem made_strs (n : Nat) : madeCells (Value.string ⟨#[]⟩).cells n = ((List.replicate n (⟨#[]⟩ : ByteArray)).map Value.string).toArray := by
  apply Array.ext
  · simp [madeCells]
  · intro i h1 h2
    simp [madeCells, Value.cells, Nat.mod_one]
theorem makeT (w : World) (n : Nat) (hn : n ≤ 1000000000) : ∃ w', (Instr.makeSlice 28 (.int .i64 (n : Int)) (.int .i64 (n : Int))).run Tryd.prog w = .ok (.slice (some ⟨w.heap.size, 0, none⟩) n n) w' ∧ Tx w' w.heap.size (List.replicate n ⟨#[]⟩) ∧ Below w.heap.size w w' := by
  obtain ⟨i0, hi, hz0, hz1, hz2⟩ := info_parts infoS
  have hr := run_make (P := Tryd.prog) w 28 9 i0 _ Tryd.underlying28 hi hz0 .i64 .i64 (n : Int) (n : Int) (by omega) (Int.le_refl _) (by rw [hz2]; omega) (by omega)
  rw [hz1, Nat.mul_one, Int.toNat_natCast, made_strs] at hr
  exact ⟨_, hr, heap_alloc_new w _, below_new w _⟩
/-- the texts of the first k runs, and room for the others -/
def txs (R : List Rn) (k : Nat) : List ByteArray := (R.take k).map (fun r => bs (rnT r)) ++ List.replicate (R.length - k) ⟨#[]⟩
theorem txs_zero (R : List Rn) : txs R 0 = List.replicate R.length ⟨#[]⟩ := by simp [txs]
theorem txs_all (R : List Rn) : txs R R.length = R.map fun r => bs (rnT r) := by simp [txs]
theorem txs_len (R : List Rn) (k : Nat) (h : k ≤ R.length) : (txs R k).length = R.length := by simp [txs]; omega
theorem txs_at (R : List Rn) (k : Nat) (h : k < R.length) : (txs R k)[k]? = some ⟨#[]⟩ := by
  unfold txs
  have hl : ((R.take k).map fun r => bs (rnT r)).length = k := by simp; omega
  rw [List.getElem?_append_right (by omega), hl, Nat.sub_self, List.getElem?_replicate, if_pos (by omega)]
theorem txs_set (R : List Rn) (k : Nat) (h : k < R.length) : (txs R k).set k (bs (rnT (R.getD k rn0))) = txs R (k + 1) := by
  unfold txs
  have hl : ((R.take k).map fun r => bs (rnT r)).length = k := by simp; omega
  rw [List.set_append_right _ _ (by omega), hl, Nat.sub_self, take_next R k h, List.map_append, show R.length - k = (R.length - (k + 1)) + 1 by omega, List.replicate_succ, List.set_cons_zero, List.append_assoc]
  rfl
theorem madeR (w : World) (r : Rn) : ∃ w' : World, (stR (.pointer (some ⟨w.heap.size, 0, none⟩)) (.agg #[.int .i64 r.lo, .int .i64 r.hi])).run Tryd.prog (w.alloc (.cells #[.int .i64 0, .int .i64 0] 25)) = .ok () w' ∧ Box w' w.heap.size 25 r ∧ Below w.heap.size w w' := by
  refine ⟨_, run_stR (r' := r) (box_new w 25 rn0), setRow_heap _ _ _ _ _ _ (box_new w 25 rn0), ?_⟩
  exact (below_new w _).trans ⟨rfl, rfl, rfl, by simp [World.setRow], fun k hk => setRow_other _ _ _ _ (by omega)⟩
theorem join_txt (R : List Rn) : Lib.join ((R.map fun r => bs (rnT r)).map (·.data.toList)) (bs [44]).data.toList = runsT R := by
  rw [runsT_join, List.map_map, bs_list]
  congr 1
set_option maxRecDepth 100000 in
set_option maxHeartbeats 3200000 in
theorem show_any (ao : Option Addr) (n c : Nat) (A : List Rn) (w : World) (hS : RSrc w ao n c A) (ht : Tab w) :
    Calls Tryd.prog 4 #[.slice ao n c] w fun e w' => ∃ R, NormOf A R ∧ e = .returned (.string (bs (showT R))) ∧ Below w.heap.size w w' := by
  have HC := hide (norm_any ao n c A w hS)
  have HT := hide ht
  clear hS ht
  go_enter Tryd.func4, Tryd.ntmps4
  go_wp2_with (go_at_call 6; refine HC.out.mono ?_; rintro e w1 ⟨a1, n1, c1, R, rfl, S1, b1, p1⟩; have HS1 := hide S1; have HB1 := hide b1; have HN := hide p1; have hRl := S1.len; have hRb := form_small (Int.le_refl _) p1.1; clear S1 b1 p1; obtain ⟨w2, hmk, T2, B2⟩ := makeT w1 n1 (by omega); have HT2 := hide T2; have HB2 := hide B2; clear T2 B2; cases hq : ((n1 : Int) == 0))
  rotate_left
  · have hz : n1 = 0 := by simpa using hq
    have HF : Hid (showT R = noneL) := by show _ = _; unfold showT; rw [if_pos (List.eq_nil_of_length_eq_zero (by omega))]
    go_wp2_with fail
    go_ret
    exact ⟨R, HN.out, by rw [HF.out]; rfl, HB1.out⟩
  · have hz : ¬ n1 = 0 := by simpa using hq
    have HG : Hid (∀ r, r ∈ R → Gd r) := form_gd (Int.le_refl _) HN.out.1
    go_wp2_with fail
    go_loopw [17] (fun v wr => ∃ k : Nat, k ≤ n1 ∧ v = .int .i64 (k : Int) ∧ Hid (Tx wr w1.heap.size (txs R k)) ∧ Hid (Below w1.heap.size w1 wr)) (fun v _ => n1 - (intOf v).toNat)
    case atStart => exact ⟨0, by omega, rfl, by show Tx _ _ _; rw [txs_zero, hRl]; exact HT2.out, HB2⟩
    case round =>
      clear HT2 HB2
      obtain ⟨k, hk, rfl, HX, HB⟩ := hrel
      by_cases hlt : k < n1
      · obtain ⟨ad, rfl, x⟩ := HS1.out.at k hlt
        obtain ⟨pb, po, rfl⟩ := HS1.out.spot (by omega)
        have HE := hide (txs_set R k (by omega))
        have hcl := HX.out.cell k _ (txs_at R k (by omega))
        obtain ⟨y, hy⟩ : ∃ y, R.getD k rn0 = y := ⟨_, rfl⟩
        have hgd : Gd y := HG.out y (by rw [← hy]; simp [List.getD, show k < R.length by omega])
        rw [hy] at x HE
        have xr := x.on HB.out
        rw [Addr.add_lit] at xr
        have x0 : (ldR (.pointer (some ⟨pb, po + k * 2, none⟩))).run Tryd.prog wr = .ok (.agg #[.int .i64 y.lo, .int .i64 y.hi]) wr := run_ldR xr
        obtain ⟨w3, hst, hbx, hbl⟩ := madeR wr y
        have hld : (ldR (.pointer (some ⟨wr.heap.size, 0, none⟩))).run Tryd.prog w3 = .ok (.agg #[.int .i64 y.lo, .int .i64 y.hi]) w3 := run_ldR hbx.at
        have HX3 := hide (HX.out.on hbl)
        have HB3 := hide (HB.out.trans (hbl.mono HB.out.size))
        have HSh := hide (showRun_any y w3 hgd (HT.out.on (HB1.out.trans (HB3.out.mono HB1.out.size))))
        clear hbx hbl x xr hgd hy HX HB hcl
        go_wp2_with (go_at_call 7; refine HSh.out.mono ?_; rintro e w4 ⟨rfl, b4⟩; have X4 := HX3.out.on b4; have hcl := X4.cell k _ (txs_at R k (by omega)); have hfr := X4.frozen k; have HX5 := hide (X4.set k (bs (rnT y))); have HB4 := hide (HB3.out.trans (b4.mono HB3.out.size)))
        go_roundw
        case rel => exact ⟨k + 1, by omega, by go_num, by have := HX5.out; rw [HE.out] at this; exact this, HB4.out.setCell (p := ⟨w1.heap.size, k, none⟩) (Nat.le_refl _) _⟩
        case measure => simp [intOf]; omega
      · obtain rfl : k = n1 := by omega
        have HX2 : Hid (Tx wr w1.heap.size (R.map fun r => bs (rnT r))) := by have := HX.out; rw [← hRl, txs_all] at this; exact this
        have hjl : (Lib.join ((R.map fun r => bs (rnT r)).map (·.data.toList)) (bs [44]).data.toList).length ≤ 140737488355328 := by
          rw [join_txt]
          have := runsT_len HG.out
          omega
        have hJ := Tryd.strings_Join w1.heap.size 0 k (R.map fun r => bs (rnT r)) (bs [44]) wr (fun j x hj => by rw [Nat.zero_add]; exact HX2.out.cell j x hj) HX2.out.lt (by rw [List.length_map]; omega) (by rw [List.length_map]; omega) hjl
        rw [List.length_map, hRl, join_txt] at hJ
        have HJ := hide hJ
        have HF : Hid (showT R = runsT R) := by show _ = _; unfold showT; rw [if_neg (fun e => by rw [e] at hRl; simp at hRl; omega)]
        clear hJ hjl
        go_wp2_with (go_at_call 8; refine HJ.out.mono ?_; rintro e w5 ⟨rfl, b5⟩)
        go_ret
        exact ⟨R, HN.out, by rw [HF.out]; rfl, HB1.out.trans ((HB.out.trans (b5.mono HB.out.size)).mono HB1.out.size)⟩
end Go.Proofs.YtpolleieajgheaaDoor
