/- The reference's with. -/
import Derived.Test.YtpnnlfhknnnfhaaGreatDoorKPo
import Derived.Test.YtpnnlfhknnnfhaaGreatDoorJWo
import Derived.OrdersHeld
namespace Go.Proofs.YtpnnlfhknnnfhaaGreatDoor
open Go.RowKit T Y V
variable {w w' w2 : World} {g : Nat}
attribute [local go_sem ↓] ldSh_eq stSh_eq ldO_eq stO_eq

/-- with, by capital letters -/
def wtN (o : Sp) (f : UInt8) (n : Int) : Sp := if f.toNat = 82 then { o with rep := n } else if f.toNat = 67 then { o with cart := n } else if f.toNat = 84 then { o with dst := n } else if f.toNat = 81 then { o with qty := n } else if f.toNat = 78 then { o with nr := n } else if f.toNat = 75 then { o with kind := n } else o
theorem OBox.setAt {o : Sp} (h : OBox w g o) (i : Nat) (v : Value) {u : Value} (hi : (OC o)[i]? = some u) : w.cell? ⟨g, i, none⟩ = some u ∧ w.frozen? ⟨g, i, none⟩ = false ∧ ∀ q : Sp, (OC o).setIfInBounds i v = OC q → OBox (w.setCell ⟨g, i, none⟩ v) g q := by
  unfold OBox at h ⊢
  refine ⟨?_, by simp [World.frozen?, h], fun q hq => ?_⟩
  · simp only [World.cell?, h]
    rw [hi]
    rfl
  · rw [heap_setCell_same w g _ _ _ _ h, hq]
set_option maxRecDepth 100000 in
set_option maxHeartbeats 3200000 in
theorem with_any (o : Sp) (f : UInt8) (n : Int) (w : World) : Calls Tryz.prog 26 #[.agg (OC o), .int .u8 (f.toNat : Int), .int .i64 n] w fun e w' => e = .returned (.agg (OC (wtN o f n))) ∧ Below w.heap.size w w' := by
  obtain ⟨w1, hw1⟩ : ∃ w1, w.alloc (.cells (OC o) 24) = w1 := ⟨_, rfl⟩
  have hx1 : OBox w1 w.heap.size o := by rw [← hw1]; exact OBox_new w o
  have hb1 : Below w.heap.size w w1 := by rw [← hw1]; exact below_new _ _
  have hz1 : w1.heap.size = w.heap.size + 1 := by rw [← hw1]; simp
  obtain ⟨w2, hw2, hx2, hb2, -⟩ := zero_made w1
  have HX := hide (hx1.below hb2)
  have HZ := hide hx2
  have HB2 := hide (hb1.trans (hb2.mono hb1.size))
  have HZ1 := hide hz1
  clear hx1 hb1 hx2 hb2 hz1
  cases h0 : ((f.toNat : Int) == 82) with
  | true =>
    have hf := beqN (n := 82) h0
    have HF : Hid (wtN o f n = { o with rep := n }) := by show _ = _; unfold wtN; rw [if_pos hf]
    obtain ⟨cc, ff, hset⟩ := OBox.setAt HX.out 1 (.int .i64 n) (rfl)
    have HS : Hid (OBox (w2.setCell ⟨w.heap.size, 1, none⟩ (.int .i64 n)) w.heap.size { o with rep := n }) := hset _ rfl
    have hld := run_ldO HS.out
    have hz3 : OBox (w2.setCell ⟨w.heap.size, 1, none⟩ (.int .i64 n)) w1.heap.size sp0 := (heap_setCell_other w2 _ w1.heap.size _ (by show w1.heap.size ≠ w.heap.size; have := HZ1.out; omega)).trans HZ.out
    obtain ⟨w4, hst, hx4, k4⟩ := op_put (o := { o with rep := n }) hz3
    have HX4 := hide hx4
    have bw3 : Below w.heap.size w (w2.setCell ⟨w.heap.size, 1, none⟩ (.int .i64 n)) := HB2.out.setCell (Nat.le_refl _) _
    have HB4 : Hid (Below w.heap.size w w4) := bw3.trans (k4.below (by have := HZ1.out; omega) bw3.size)
    clear hf hset hz3 hx4 k4 bw3
    go_enter Tryz.func26, Tryz.ntmps26
    go_wp2_with fail
    exact bodyPost_ret (res1O Tryz.results26 rfl HX4.out) rfl ⟨by rw [HF.out], HB4.out⟩
  | false =>
    cases h1 : ((f.toNat : Int) == 67) with
    | true =>
      have hf := beqN (n := 67) h1
      have HF : Hid (wtN o f n = { o with cart := n }) := by show _ = _; unfold wtN; rw [if_neg (bneN (n := 82) h0), if_pos hf]
      obtain ⟨cc, ff, hset⟩ := OBox.setAt HX.out 2 (.int .i64 n) (rfl)
      have HS : Hid (OBox (w2.setCell ⟨w.heap.size, 2, none⟩ (.int .i64 n)) w.heap.size { o with cart := n }) := hset _ rfl
      have hld := run_ldO HS.out
      have hz3 : OBox (w2.setCell ⟨w.heap.size, 2, none⟩ (.int .i64 n)) w1.heap.size sp0 := (heap_setCell_other w2 _ w1.heap.size _ (by show w1.heap.size ≠ w.heap.size; have := HZ1.out; omega)).trans HZ.out
      obtain ⟨w4, hst, hx4, k4⟩ := op_put (o := { o with cart := n }) hz3
      have HX4 := hide hx4
      have bw3 : Below w.heap.size w (w2.setCell ⟨w.heap.size, 2, none⟩ (.int .i64 n)) := HB2.out.setCell (Nat.le_refl _) _
      have HB4 : Hid (Below w.heap.size w w4) := bw3.trans (k4.below (by have := HZ1.out; omega) bw3.size)
      clear hf hset hz3 hx4 k4 bw3
      go_enter Tryz.func26, Tryz.ntmps26
      go_wp2_with fail
      exact bodyPost_ret (res1O Tryz.results26 rfl HX4.out) rfl ⟨by rw [HF.out], HB4.out⟩
    | false =>
      cases h2 : ((f.toNat : Int) == 84) with
      | true =>
        have hf := beqN (n := 84) h2
        have HF : Hid (wtN o f n = { o with dst := n }) := by show _ = _; unfold wtN; rw [if_neg (bneN (n := 82) h0), if_neg (bneN (n := 67) h1), if_pos hf]
        obtain ⟨cc, ff, hset⟩ := OBox.setAt HX.out 3 (.int .i64 n) (rfl)
        have HS : Hid (OBox (w2.setCell ⟨w.heap.size, 3, none⟩ (.int .i64 n)) w.heap.size { o with dst := n }) := hset _ rfl
        have hld := run_ldO HS.out
        have hz3 : OBox (w2.setCell ⟨w.heap.size, 3, none⟩ (.int .i64 n)) w1.heap.size sp0 := (heap_setCell_other w2 _ w1.heap.size _ (by show w1.heap.size ≠ w.heap.size; have := HZ1.out; omega)).trans HZ.out
        obtain ⟨w4, hst, hx4, k4⟩ := op_put (o := { o with dst := n }) hz3
        have HX4 := hide hx4
        have bw3 : Below w.heap.size w (w2.setCell ⟨w.heap.size, 3, none⟩ (.int .i64 n)) := HB2.out.setCell (Nat.le_refl _) _
        have HB4 : Hid (Below w.heap.size w w4) := bw3.trans (k4.below (by have := HZ1.out; omega) bw3.size)
        clear hf hset hz3 hx4 k4 bw3
        go_enter Tryz.func26, Tryz.ntmps26
        go_wp2_with fail
        exact bodyPost_ret (res1O Tryz.results26 rfl HX4.out) rfl ⟨by rw [HF.out], HB4.out⟩
      | false =>
        cases h3 : ((f.toNat : Int) == 81) with
        | true =>
          have hf := beqN (n := 81) h3
          have HF : Hid (wtN o f n = { o with qty := n }) := by show _ = _; unfold wtN; rw [if_neg (bneN (n := 82) h0), if_neg (bneN (n := 67) h1), if_neg (bneN (n := 84) h2), if_pos hf]
          obtain ⟨cc, ff, hset⟩ := OBox.setAt HX.out 5 (.int .i64 n) (rfl)
          have HS : Hid (OBox (w2.setCell ⟨w.heap.size, 5, none⟩ (.int .i64 n)) w.heap.size { o with qty := n }) := hset _ rfl
          have hld := run_ldO HS.out
          have hz3 : OBox (w2.setCell ⟨w.heap.size, 5, none⟩ (.int .i64 n)) w1.heap.size sp0 := (heap_setCell_other w2 _ w1.heap.size _ (by show w1.heap.size ≠ w.heap.size; have := HZ1.out; omega)).trans HZ.out
          obtain ⟨w4, hst, hx4, k4⟩ := op_put (o := { o with qty := n }) hz3
          have HX4 := hide hx4
          have bw3 : Below w.heap.size w (w2.setCell ⟨w.heap.size, 5, none⟩ (.int .i64 n)) := HB2.out.setCell (Nat.le_refl _) _
          have HB4 : Hid (Below w.heap.size w w4) := bw3.trans (k4.below (by have := HZ1.out; omega) bw3.size)
          clear hf hset hz3 hx4 k4 bw3
          go_enter Tryz.func26, Tryz.ntmps26
          go_wp2_with fail
          exact bodyPost_ret (res1O Tryz.results26 rfl HX4.out) rfl ⟨by rw [HF.out], HB4.out⟩
        | false =>
          cases h4 : ((f.toNat : Int) == 78) with
          | true =>
            have hf := beqN (n := 78) h4
            have HF : Hid (wtN o f n = { o with nr := n }) := by show _ = _; unfold wtN; rw [if_neg (bneN (n := 82) h0), if_neg (bneN (n := 67) h1), if_neg (bneN (n := 84) h2), if_neg (bneN (n := 81) h3), if_pos hf]
            obtain ⟨cc, ff, hset⟩ := OBox.setAt HX.out 6 (.int .i64 n) (rfl)
            have HS : Hid (OBox (w2.setCell ⟨w.heap.size, 6, none⟩ (.int .i64 n)) w.heap.size { o with nr := n }) := hset _ rfl
            have hld := run_ldO HS.out
            have hz3 : OBox (w2.setCell ⟨w.heap.size, 6, none⟩ (.int .i64 n)) w1.heap.size sp0 := (heap_setCell_other w2 _ w1.heap.size _ (by show w1.heap.size ≠ w.heap.size; have := HZ1.out; omega)).trans HZ.out
            obtain ⟨w4, hst, hx4, k4⟩ := op_put (o := { o with nr := n }) hz3
            have HX4 := hide hx4
            have bw3 : Below w.heap.size w (w2.setCell ⟨w.heap.size, 6, none⟩ (.int .i64 n)) := HB2.out.setCell (Nat.le_refl _) _
            have HB4 : Hid (Below w.heap.size w w4) := bw3.trans (k4.below (by have := HZ1.out; omega) bw3.size)
            clear hf hset hz3 hx4 k4 bw3
            go_enter Tryz.func26, Tryz.ntmps26
            go_wp2_with fail
            exact bodyPost_ret (res1O Tryz.results26 rfl HX4.out) rfl ⟨by rw [HF.out], HB4.out⟩
          | false =>
            cases h5 : ((f.toNat : Int) == 75) with
            | true =>
              have hf := beqN (n := 75) h5
              have HF : Hid (wtN o f n = { o with kind := n }) := by show _ = _; unfold wtN; rw [if_neg (bneN (n := 82) h0), if_neg (bneN (n := 67) h1), if_neg (bneN (n := 84) h2), if_neg (bneN (n := 81) h3), if_neg (bneN (n := 78) h4), if_pos hf]
              obtain ⟨cc, ff, hset⟩ := OBox.setAt HX.out 0 (.int .i64 n) (rfl)
              have HS : Hid (OBox (w2.setCell ⟨w.heap.size, 0, none⟩ (.int .i64 n)) w.heap.size { o with kind := n }) := hset _ rfl
              have hld := run_ldO HS.out
              have hz3 : OBox (w2.setCell ⟨w.heap.size, 0, none⟩ (.int .i64 n)) w1.heap.size sp0 := (heap_setCell_other w2 _ w1.heap.size _ (by show w1.heap.size ≠ w.heap.size; have := HZ1.out; omega)).trans HZ.out
              obtain ⟨w4, hst, hx4, k4⟩ := op_put (o := { o with kind := n }) hz3
              have HX4 := hide hx4
              have bw3 : Below w.heap.size w (w2.setCell ⟨w.heap.size, 0, none⟩ (.int .i64 n)) := HB2.out.setCell (Nat.le_refl _) _
              have HB4 : Hid (Below w.heap.size w w4) := bw3.trans (k4.below (by have := HZ1.out; omega) bw3.size)
              clear hf hset hz3 hx4 k4 bw3
              go_enter Tryz.func26, Tryz.ntmps26
              go_wp2_with fail
              exact bodyPost_ret (res1O Tryz.results26 rfl HX4.out) rfl ⟨by rw [HF.out], HB4.out⟩
            | false =>
              have HF : Hid (wtN o f n = o) := by show _ = _; unfold wtN; rw [if_neg (bneN (n := 82) h0), if_neg (bneN (n := 67) h1), if_neg (bneN (n := 84) h2), if_neg (bneN (n := 81) h3), if_neg (bneN (n := 78) h4), if_neg (bneN (n := 75) h5)]
              have hld := run_ldO HX.out
              obtain ⟨w4, hst, hx4, k4⟩ := op_put (o := o) HZ.out
              have HX4 := hide hx4
              have HB4 : Hid (Below w.heap.size w w4) := HB2.out.trans (k4.below (by have := HZ1.out; omega) HB2.out.size)
              clear hx4 k4
              go_enter Tryz.func26, Tryz.ntmps26
              go_wp2_with fail
              exact bodyPost_ret (res1O Tryz.results26 rfl HX4.out) rfl ⟨by rw [HF.out], HB4.out⟩
/-- the reference's letters and the program's -/
theorem cap_with (o : Sp) (c : UInt8) (n : Int) (hc : c ∈ ([107, 114, 99, 116, 113, 110] : List UInt8)) : wtN o (c - 32) n = setN o c n := by
  simp only [List.mem_cons, List.not_mem_nil, or_false] at hc
  rcases hc with rfl | rfl | rfl | rfl | rfl | rfl <;> rfl
theorem fds_letters : ∀ i, i < 17 → ∀ c ∈ (shp.getD i ([], [])).2, c = 115 ∨ c ∈ ([107, 114, 99, 116, 113, 110] : List UInt8) := by decide
theorem fdsL_letters (k : Int) (c : UInt8) (h : c ∈ fdsL k) : c = 115 ∨ c ∈ ([107, 114, 99, 116, 113, 110] : List UInt8) := fds_letters _ (kdN_lt k) c h
end Go.Proofs.YtpnnlfhknnnfhaaGreatDoor
