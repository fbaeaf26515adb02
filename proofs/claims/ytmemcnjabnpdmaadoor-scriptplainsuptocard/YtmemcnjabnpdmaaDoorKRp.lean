/- The reference's with, Plain, PrintOp. -/
import Derived.Test.YtmemcnjabnpdmaaDoorKPn
import Derived.Test.YtmemcnjabnpdmaaDoorJLn
import Derived.OrdersHeld
namespace Go.Proofs.YtmemcnjabnpdmaaDoor
open Go.RowKit T Y V
variable {w w' w2 : World} {g : Nat}
attribute [local go_sem ↓] ldSh_eq stSh_eq ldO_eq stO_eq

/-- with, by capital letters -/
def wtN (o : Sp) (f : UInt8) (n : Int) : Sp := if f.toNat = 82 then { o with rep := n } else if f.toNat = 67 then { o with cart := n } else if f.toNat = 84 then { o with dst := n } else if f.toNat = 81 then { o with qty := n } else if f.toNat = 78 then { o with nr := n } else if f.toNat = 75 then { o with kind := n } else o
theorem OBox.setAt {o : Sp} (h : OBox w g o) (i : Nat) (v : Value) {u : Value} (hi : (OC o)[i]? = some u) : w.cell? ⟨g, i, none⟩ = some u ∧ w.frozen? ⟨g, i, none⟩ = false ∧ ∀ q : Sp, (OC o).setIfInBounds i v = OC q → OBox (w.setCell ⟨g, i, none⟩ v) g q := by
  unfold OBox at h ⊢
  refine ⟨?_, by simp [World.frozen?, h], fun q hq => ?_⟩
  · simp only [World.cell?, h]
    rw [hi]
    rfl
  · rw [heap_setCell_same w g _ _ _ _ h, hq]
set_option maxRecDepth 100000 in
set_option maxHeartbeats 3200000 in
theorem with_any (o : Sp) (f : UInt8) (n : Int) (w : World) : Calls Tryd.prog 24 #[.agg (OC o), .int .u8 (f.toNat : Int), .int .i64 n] w fun e w' => e = .returned (.agg (OC (wtN o f n))) ∧ Below w.heap.size w w' := by
  obtain ⟨w1, hw1⟩ : ∃ w1, w.alloc (.cells (OC o) 23) = w1 := ⟨_, rfl⟩
  have hx1 : OBox w1 w.heap.size o := by rw [← hw1]; exact OBox_new w o
  have hb1 : Below w.heap.size w w1 := by rw [← hw1]; exact below_new _ _
  have hz1 : w1.heap.size = w.heap.size + 1 := by rw [← hw1]; simp
  obtain ⟨w2, hw2, hx2, hb2, -⟩ := zero_made w1
  have HX := hide (hx1.below hb2)
  have HZ := hide hx2
  have HB2 := hide (hb1.trans (hb2.mono hb1.size))
  have HZ1 := hide hz1
  clear hx1 hb1 hx2 hb2 hz1
  cases h0 : ((f.toNat : Int) == 82) with
  | true =>
    have hf := beqN (n := 82) h0
    have HF : Hid (wtN o f n = { o with rep := n }) := by show _ = _; unfold wtN; rw [if_pos hf]
    obtain ⟨cc, ff, hset⟩ := OBox.setAt HX.out 1 (.int .i64 n) (rfl)
    have HS : Hid (OBox (w2.setCell ⟨w.heap.size, 1, none⟩ (.int .i64 n)) w.heap.size { o with rep := n }) := hset _ rfl
    have hld := run_ldO HS.out
    have hz3 : OBox (w2.setCell ⟨w.heap.size, 1, none⟩ (.int .i64 n)) w1.heap.size sp0 := (heap_setCell_other w2 _ w1.heap.size _ (by show w1.heap.size ≠ w.heap.size; have := HZ1.out; omega)).trans HZ.out
    obtain ⟨w4, hst, hx4, k4⟩ := op_put (o := { o with rep := n }) hz3
    have HX4 := hide hx4
    have bw3 : Below w.heap.size w (w2.setCell ⟨w.heap.size, 1, none⟩ (.int .i64 n)) := HB2.out.setCell (Nat.le_refl _) _
    have HB4 : Hid (Below w.heap.size w w4) := bw3.trans (k4.below (by have := HZ1.out; omega) bw3.size)
    clear hf hset hz3 hx4 k4 bw3
    go_enter Tryd.func24, Tryd.ntmps24
    go_wp2_with fail
    exact bodyPost_ret (res1O Tryd.results24 rfl HX4.out) rfl ⟨by rw [HF.out], HB4.out⟩
  | false =>
    cases h1 : ((f.toNat : Int) == 67) with
    | true =>
      have hf := beqN (n := 67) h1
      have HF : Hid (wtN o f n = { o with cart := n }) := by show _ = _; unfold wtN; rw [if_neg (bneN (n := 82) h0), if_pos hf]
      obtain ⟨cc, ff, hset⟩ := OBox.setAt HX.out 2 (.int .i64 n) (rfl)
      have HS : Hid (OBox (w2.setCell ⟨w.heap.size, 2, none⟩ (.int .i64 n)) w.heap.size { o with cart := n }) := hset _ rfl
      have hld := run_ldO HS.out
      have hz3 : OBox (w2.setCell ⟨w.heap.size, 2, none⟩ (.int .i64 n)) w1.heap.size sp0 := (heap_setCell_other w2 _ w1.heap.size _ (by show w1.heap.size ≠ w.heap.size; have := HZ1.out; omega)).trans HZ.out
      obtain ⟨w4, hst, hx4, k4⟩ := op_put (o := { o with cart := n }) hz3
      have HX4 := hide hx4
      have bw3 : Below w.heap.size w (w2.setCell ⟨w.heap.size, 2, none⟩ (.int .i64 n)) := HB2.out.setCell (Nat.le_refl _) _
      have HB4 : Hid (Below w.heap.size w w4) := bw3.trans (k4.below (by have := HZ1.out; omega) bw3.size)
      clear hf hset hz3 hx4 k4 bw3
      go_enter Tryd.func24, Tryd.ntmps24
      go_wp2_with fail
      exact bodyPost_ret (res1O Tryd.results24 rfl HX4.out) rfl ⟨by rw [HF.out], HB4.out⟩
    | false =>
      cases h2 : ((f.toNat : Int) == 84) with
      | true =>
        have hf := beqN (n := 84) h2
        have HF : Hid (wtN o f n = { o with dst := n }) := by show _ = _; unfold wtN; rw [if_neg (bneN (n := 82) h0), if_neg (bneN (n := 67) h1), if_pos hf]
        obtain ⟨cc, ff, hset⟩ := OBox.setAt HX.out 3 (.int .i64 n) (rfl)
        have HS : Hid (OBox (w2.setCell ⟨w.heap.size, 3, none⟩ (.int .i64 n)) w.heap.size { o with dst := n }) := hset _ rfl
        have hld := run_ldO HS.out
        have hz3 : OBox (w2.setCell ⟨w.heap.size, 3, none⟩ (.int .i64 n)) w1.heap.size sp0 := (heap_setCell_other w2 _ w1.heap.size _ (by show w1.heap.size ≠ w.heap.size; have := HZ1.out; omega)).trans HZ.out
        obtain ⟨w4, hst, hx4, k4⟩ := op_put (o := { o with dst := n }) hz3
        have HX4 := hide hx4
        have bw3 : Below w.heap.size w (w2.setCell ⟨w.heap.size, 3, none⟩ (.int .i64 n)) := HB2.out.setCell (Nat.le_refl _) _
        have HB4 : Hid (Below w.heap.size w w4) := bw3.trans (k4.below (by have := HZ1.out; omega) bw3.size)
        clear hf hset hz3 hx4 k4 bw3
        go_enter Tryd.func24, Tryd.ntmps24
        go_wp2_with fail
        exact bodyPost_ret (res1O Tryd.results24 rfl HX4.out) rfl ⟨by rw [HF.out], HB4.out⟩
      | false =>
        cases h3 : ((f.toNat : Int) == 81) with
        | true =>
          have hf := beqN (n := 81) h3
          have HF : Hid (wtN o f n = { o with qty := n }) := by show _ = _; unfold wtN; rw [if_neg (bneN (n := 82) h0), if_neg (bneN (n := 67) h1), if_neg (bneN (n := 84) h2), if_pos hf]
          obtain ⟨cc, ff, hset⟩ := OBox.setAt HX.out 5 (.int .i64 n) (rfl)
          have HS : Hid (OBox (w2.setCell ⟨w.heap.size, 5, none⟩ (.int .i64 n)) w.heap.size { o with qty := n }) := hset _ rfl
          have hld := run_ldO HS.out
          have hz3 : OBox (w2.setCell ⟨w.heap.size, 5, none⟩ (.int .i64 n)) w1.heap.size sp0 := (heap_setCell_other w2 _ w1.heap.size _ (by show w1.heap.size ≠ w.heap.size; have := HZ1.out; omega)).trans HZ.out
          obtain ⟨w4, hst, hx4, k4⟩ := op_put (o := { o with qty := n }) hz3
          have HX4 := hide hx4
          have bw3 : Below w.heap.size w (w2.setCell ⟨w.heap.size, 5, none⟩ (.int .i64 n)) := HB2.out.setCell (Nat.le_refl _) _
          have HB4 : Hid (Below w.heap.size w w4) := bw3.trans (k4.below (by have := HZ1.out; omega) bw3.size)
          clear hf hset hz3 hx4 k4 bw3
          go_enter Tryd.func24, Tryd.ntmps24
          go_wp2_with fail
          exact bodyPost_ret (res1O Tryd.results24 rfl HX4.out) rfl ⟨by rw [HF.out], HB4.out⟩
        | false =>
          cases h4 : ((f.toNat : Int) == 78) with
          | true =>
            have hf := beqN (n := 78) h4
            have HF : Hid (wtN o f n = { o with nr := n }) := by show _ = _; unfold wtN; rw [if_neg (bneN (n := 82) h0), if_neg (bneN (n := 67) h1), if_neg (bneN (n := 84) h2), if_neg (bneN (n := 81) h3), if_pos hf]
            obtain ⟨cc, ff, hset⟩ := OBox.setAt HX.out 6 (.int .i64 n) (rfl)
            have HS : Hid (OBox (w2.setCell ⟨w.heap.size, 6, none⟩ (.int .i64 n)) w.heap.size { o with nr := n }) := hset _ rfl
            have hld := run_ldO HS.out
            have hz3 : OBox (w2.setCell ⟨w.heap.size, 6, none⟩ (.int .i64 n)) w1.heap.size sp0 := (heap_setCell_other w2 _ w1.heap.size _ (by show w1.heap.size ≠ w.heap.size; have := HZ1.out; omega)).trans HZ.out
            obtain ⟨w4, hst, hx4, k4⟩ := op_put (o := { o with nr := n }) hz3
            have HX4 := hide hx4
            have bw3 : Below w.heap.size w (w2.setCell ⟨w.heap.size, 6, none⟩ (.int .i64 n)) := HB2.out.setCell (Nat.le_refl _) _
            have HB4 : Hid (Below w.heap.size w w4) := bw3.trans (k4.below (by have := HZ1.out; omega) bw3.size)
            clear hf hset hz3 hx4 k4 bw3
            go_enter Tryd.func24, Tryd.ntmps24
            go_wp2_with fail
            exact bodyPost_ret (res1O Tryd.results24 rfl HX4.out) rfl ⟨by rw [HF.out], HB4.out⟩
          | false =>
            cases h5 : ((f.toNat : Int) == 75) with
            | true =>
              have hf := beqN (n := 75) h5
              have HF : Hid (wtN o f n = { o with kind := n }) := by show _ = _; unfold wtN; rw [if_neg (bneN (n := 82) h0), if_neg (bneN (n := 67) h1), if_neg (bneN (n := 84) h2), if_neg (bneN (n := 81) h3), if_neg (bneN (n := 78) h4), if_pos hf]
              obtain ⟨cc, ff, hset⟩ := OBox.setAt HX.out 0 (.int .i64 n) (rfl)
              have HS : Hid (OBox (w2.setCell ⟨w.heap.size, 0, none⟩ (.int .i64 n)) w.heap.size { o with kind := n }) := hset _ rfl
              have hld := run_ldO HS.out
              have hz3 : OBox (w2.setCell ⟨w.heap.size, 0, none⟩ (.int .i64 n)) w1.heap.size sp0 := (heap_setCell_other w2 _ w1.heap.size _ (by show w1.heap.size ≠ w.heap.size; have := HZ1.out; omega)).trans HZ.out
              obtain ⟨w4, hst, hx4, k4⟩ := op_put (o := { o with kind := n }) hz3
              have HX4 := hide hx4
              have bw3 : Below w.heap.size w (w2.setCell ⟨w.heap.size, 0, none⟩ (.int .i64 n)) := HB2.out.setCell (Nat.le_refl _) _
              have HB4 : Hid (Below w.heap.size w w4) := bw3.trans (k4.below (by have := HZ1.out; omega) bw3.size)
              clear hf hset hz3 hx4 k4 bw3
              go_enter Tryd.func24, Tryd.ntmps24
              go_wp2_with fail
              exact bodyPost_ret (res1O Tryd.results24 rfl HX4.out) rfl ⟨by rw [HF.out], HB4.out⟩
            | false =>
              have HF : Hid (wtN o f n = o) := by show _ = _; unfold wtN; rw [if_neg (bneN (n := 82) h0), if_neg (bneN (n := 67) h1), if_neg (bneN (n := 84) h2), if_neg (bneN (n := 81) h3), if_neg (bneN (n := 78) h4), if_neg (bneN (n := 75) h5)]
              have hld := run_ldO HX.out
              obtain ⟨w4, hst, hx4, k4⟩ := op_put (o := o) HZ.out
              have HX4 := hide hx4
              have HB4 : Hid (Below w.heap.size w w4) := HB2.out.trans (k4.below (by have := HZ1.out; omega) HB2.out.size)
              clear hx4 k4
              go_enter Tryd.func24, Tryd.ntmps24
              go_wp2_with fail
              exact bodyPost_ret (res1O Tryd.results24 rfl HX4.out) rfl ⟨by rw [HF.out], HB4.out⟩
/-- the reference's letters and the program's -/
theorem capG (o : Sp) (c : UInt8) (hc : c ∈ ([107, 114, 99, 116, 113, 110] : List UInt8)) : gtN o (c - 32) = fdN o c := by
  simp only [List.mem_cons, List.not_mem_nil, or_false] at hc
  rcases hc with rfl | rfl | rfl | rfl | rfl | rfl <;> rfl
theorem cap_with (o : Sp) (c : UInt8) (n : Int) (hc : c ∈ ([107, 114, 99, 116, 113, 110] : List UInt8)) : wtN o (c - 32) n = setN o c n := by
  simp only [List.mem_cons, List.not_mem_nil, or_false] at hc
  rcases hc with rfl | rfl | rfl | rfl | rfl | rfl <;> rfl
theorem fds_letters : ∀ i, i < 17 → ∀ c ∈ (shp.getD i ([], [])).2, c = 115 ∨ c ∈ ([107, 114, 99, 116, 113, 110] : List UInt8) := by decide
theorem fdsL_letters (k : Int) (c : UInt8) (h : c ∈ fdsL k) : c = 115 ∨ c ∈ ([107, 114, 99, 116, 113, 110] : List UInt8) := fds_letters _ (kdN_lt k) c h
set_option maxRecDepth 100000 in
set_option maxHeartbeats 3200000 in
theorem rplain_any (o : Sp) (w : World) : Calls Tryd.prog 11 #[.agg (OC o)] w fun e w' => e = .returned (.agg (OC (plainP o))) ∧ Below w.heap.size w w' := by
  obtain ⟨w1, hw1⟩ : ∃ w1, w.alloc (.cells (OC o) 23) = w1 := ⟨_, rfl⟩
  have hx1 : OBox w1 w.heap.size o := by rw [← hw1]; exact OBox_new w o
  have hb1 : Below w.heap.size w w1 := by rw [← hw1]; exact below_new _ _
  have hz1 : w1.heap.size = w.heap.size + 1 := by rw [← hw1]; simp
  obtain ⟨w2, hw2, hx2, hb2, hz2⟩ := zero_made w1
  have c0 : w2.cell? ⟨w.heap.size, 0, none⟩ = some (.int .i64 o.kind) := (hx1.below hb2).c0
  obtain ⟨w3, hst, hx3, hb3, hz3⟩ := madeO w2 { sp0 with kind := o.kind } w2.heap.size rfl
  have hst' : (stO (.pointer (some ⟨w2.heap.size, 0, none⟩)) (.agg #[.int .i64 o.kind, .int .i64 0, .int .i64 0, .int .i64 0, .string ⟨#[]⟩, .int .i64 0, .int .i64 0])).run Tryd.prog (w2.alloc (.cells #[.int .i64 0, .int .i64 0, .int .i64 0, .int .i64 0, .string ⟨#[]⟩, .int .i64 0, .int .i64 0] 23)) = .ok () w3 := hst
  have c3 : w3.cell? ⟨w.heap.size, 0, none⟩ = some (.int .i64 o.kind) := ((hx1.below hb2).below hb3).c0
  have bw2 := hb1.trans (hb2.mono hb1.size)
  have bw3 := bw2.trans (hb3.mono bw2.size)
  have HP0 : Hid (Pn w w3 w.heap.size w1.heap.size w2.heap.size o { sp0 with kind := o.kind }) := ⟨(hx1.below hb2).below hb3, hx2.below hb3, hx3, bw3, Nat.le_refl _, by omega, by omega⟩
  have HC := hide (rshape_any o.kind w3)
  obtain ⟨F, hF⟩ : ∃ F, fdsL o.kind = F := ⟨_, rfl⟩
  have hF4 : F.length ≤ 4 := by rw [← hF]; exact (fds_small (kdN o.kind) (kdN_lt o.kind)).1
  have HPl : Hid (plainP o = F.foldl (cpF o) { sp0 with kind := o.kind }) := by show _ = _; unfold plainP; rw [hF]
  have HLt : Hid (∀ c ∈ F, c = 115 ∨ c ∈ ([107, 114, 99, 116, 113, 110] : List UInt8)) := by rw [← hF]; exact fdsL_letters o.kind
  have hFg : ∀ fs, bs (capL F) = fs → ∀ i (h : i < fs.size), fs[i] = F.getD i 0 - 32 := by
    rintro fs rfl i h
    rw [bs_get]
    have hi : i < F.length := by rw [bs_size] at h; simpa [capL] using h
    simp [capL, List.getD, hi]
  obtain ⟨m, hm⟩ : ∃ m, F.length = m := ⟨_, rfl⟩
  have hFm : (bs (capL F)).size = m := by rw [bs_size]; simpa [capL] using hm
  rw [hF] at HC
  have HM := hide hm
  have hm4 : m ≤ 4 := by omega
  clear hx1 hb1 hx2 hb2 hz2 hst hx3 hb3 hz3 bw2 bw3 hF hm hz1
  obtain ⟨fs, hfs⟩ : ∃ fs, bs (capL F) = fs := ⟨_, rfl⟩
  have HFg := hide (hFg fs hfs)
  rw [hfs] at HC hFm
  clear hfs hFg
  go_enter Tryd.func11, Tryd.ntmps11
  go_wp2_with (go_at_call 23; refine HC.out.mono ?_; rintro e w4 ⟨rfl, b4⟩; have HP4 := hide (HP0.out.below b4); clear b4)
  clear hst' c0 c3 HC HP0
  go_loopw [5] (fun v wr => ∃ (i : Nat) (p : Sp), i ≤ m ∧ v = .int .i64 (i : Int) ∧ Hid (Pn w wr w.heap.size w1.heap.size w2.heap.size o p) ∧ Hid (plainP o = (F.drop i).foldl (cpF o) p)) (fun v _ => m - (intOf v).toNat)
  case atStart => exact ⟨0, _, by omega, rfl, HP4, HPl⟩
  case round =>
    clear HP4 HPl
    obtain ⟨i, p, hi, rfl, HP, HA⟩ := hrel
    by_cases hlt : i < m
    · have hiI : (i : Int) < m := by omega
      have hiF : i < fs.size := by omega
      have hil : i < F.length := by have := HM.out; omega
      obtain ⟨c, hcc⟩ : ∃ c, F.getD i 0 = c := ⟨_, rfl⟩
      have hmem : c ∈ F := by rw [← hcc]; simp [List.getD, hil]
      have hlet := HLt.out c hmem
      obtain ⟨f, hf⟩ : ∃ f, fs[i] = f := ⟨_, rfl⟩
      have hfc : f = c - 32 := by rw [← hf, HFg.out i hiF, hcc]
      have hA : plainP o = (F.drop (i + 1)).foldl (cpF o) (cpF o p c) := by
        rw [HA.out, List.drop_eq_getElem_cons hil, List.foldl_cons, ← hcc]
        simp [List.getD, hil]
      have HAs := hide hA
      clear hA HA hmem hil
      by_cases h115 : c = 115
      · have e83 : ((f.toNat : Int) == 83) = true := by rw [hfc, h115]; rfl
        have HQ : Hid (cpF o p c = { p with sku := o.sku }) := by show _ = _; unfold cpF; rw [if_pos (by rw [h115]; rfl)]
        have c4 := HP.out.x.c4
        have d4 := HP.out.y.c4
        have f4 := (HP.out.y.setS o.sku).2
        have HP5 := hide (HP.out.on ((KG.of (Below.refl _ _) w2.heap.size).set 4 (.string o.sku)) (HP.out.y.setS o.sku).1)
        clear h115 hlet hfc hcc
        go_wp2_with fail
        go_roundw
        case rel => exact ⟨i + 1, _, by omega, by go_num, HP5, by show _ = _; rw [HAs.out, HQ.out]⟩
        case measure => simp [intOf]; omega
      · have hl2 : c ∈ ([107, 114, 99, 116, 113, 110] : List UInt8) := by rcases hlet with h | h; exact absurd h h115; exact h
        have e83 : ((f.toNat : Int) == 83) = false := by
          rw [hfc]
          simp only [List.mem_cons, List.not_mem_nil, or_false] at hl2
          rcases hl2 with rfl | rfl | rfl | rfl | rfl | rfl <;> rfl
        have HQ : Hid (cpF o p c = wtN p f (gtN o f)) := by
          show _ = _
          rw [hfc, capG o c hl2, cap_with p c _ hl2]
          unfold cpF
          rw [if_neg (by intro h; apply h115; apply UInt8.toNat_inj.1; rw [h]; rfl)]
        have HPd := hide (HP.out.below (below_drew1 wr))
        clear h115 hlet hfc hcc hl2
        go_wp2_with fail
        refine wp_region_held_drew (S := fun v => OBox v w.heap.size o) (by kernel_rfl) (HPd.out.x) (fun hHeld => ?_)
        refine wpAnyH_take (i := 1) (oi := { dst := some 26, op := Op.move (Operand.tmp 4), type := 9, pos := "ref.go:79", after := #[], guard := none }) (v := ?_) rfl (by kernel_rfl) (by kernel_rfl) (by kernel_rfl) (fun _ _ _ h => h) (Or.inl ⟨by rfl, ?_⟩) (by assumption) ?_
        rotate_left
        · (intro w hSw; (try dsimp only at hSw); go_simp); first | done | with_reducible rfl
        simp only [Act.put, List.setIfInBounds_toArray, List.set_cons_zero, List.set_cons_succ]
        refine wpAnyH_take (i := 2) (oi := { dst := some 27, op := Op.move (Operand.tmp 5), type := 3, pos := "ref.go:79", after := #[], guard := none }) (v := ?_) rfl (by kernel_rfl) (by kernel_rfl) (by kernel_rfl) (fun _ _ _ h => h) (Or.inl ⟨by rfl, ?_⟩) (by assumption) ?_
        rotate_left
        · (intro w hSw; (try dsimp only at hSw); go_simp); first | done | with_reducible rfl
        simp only [Act.put, List.setIfInBounds_toArray, List.set_cons_zero, List.set_cons_succ]
        refine wpAnyH_take (i := 3) (oi := { dst := some 28, op := Op.index 9 (Operand.tmp 26) (Operand.tmp 27), type := 5, pos := "ref.go:79", after := #[{ on := 1, ground := Ground.data }, { on := 2, ground := Ground.data }], guard := none }) (v := ?_) rfl (by kernel_rfl) (by kernel_rfl) (by kernel_rfl) (fun _ _ _ h => h) (Or.inl ⟨by rfl, ?_⟩) (by assumption) ?_
        rotate_left
        · (intro w hSw; (try dsimp only at hSw); go_simp; (try simp only [hf]); go_simp); first | done | with_reducible rfl
        simp only [Act.put, List.setIfInBounds_toArray, List.set_cons_zero, List.set_cons_succ]
        refine wpAnyH_take (i := 4) (oi := { dst := some 29, op := Op.load 23 (Operand.tmp 1), type := 23, pos := "ref.go:79", after := #[], guard := none }) (v := ?_) rfl (by kernel_rfl) (by kernel_rfl) (by kernel_rfl) (fun _ _ _ h => h) (Or.inl ⟨by rfl, ?_⟩) (by assumption) ?_
        rotate_left
        · (intro w hSw; (try dsimp only at hSw); have hl := run_ldO hSw; go_simp); first | done | with_reducible rfl
        simp only [Act.put, List.setIfInBounds_toArray, List.set_cons_zero, List.set_cons_succ]
        refine wpAnyH_take (i := 5) (oi := { dst := some 30, op := Op.move (Operand.tmp 4), type := 9, pos := "ref.go:79", after := #[], guard := none }) (v := ?_) rfl (by kernel_rfl) (by kernel_rfl) (by kernel_rfl) (fun _ _ _ h => h) (Or.inl ⟨by rfl, ?_⟩) (by assumption) ?_
        rotate_left
        · (intro w hSw; (try dsimp only at hSw); go_simp); first | done | with_reducible rfl
        simp only [Act.put, List.setIfInBounds_toArray, List.set_cons_zero, List.set_cons_succ]
        refine wpAnyH_take (i := 6) (oi := { dst := some 31, op := Op.move (Operand.tmp 5), type := 3, pos := "ref.go:79", after := #[], guard := none }) (v := ?_) rfl (by kernel_rfl) (by kernel_rfl) (by kernel_rfl) (fun _ _ _ h => h) (Or.inl ⟨by rfl, ?_⟩) (by assumption) ?_
        rotate_left
        · (intro w hSw; (try dsimp only at hSw); go_simp); first | done | with_reducible rfl
        simp only [Act.put, List.setIfInBounds_toArray, List.set_cons_zero, List.set_cons_succ]
        refine wpAnyH_take (i := 7) (oi := { dst := some 32, op := Op.index 9 (Operand.tmp 30) (Operand.tmp 31), type := 5, pos := "ref.go:79", after := #[{ on := 5, ground := Ground.data }, { on := 6, ground := Ground.data }], guard := none }) (v := ?_) rfl (by kernel_rfl) (by kernel_rfl) (by kernel_rfl) (fun _ _ _ h => h) (Or.inl ⟨by rfl, ?_⟩) (by assumption) ?_
        rotate_left
        · (intro w hSw; (try dsimp only at hSw); go_simp; (try simp only [hf]); go_simp); first | done | with_reducible rfl
        simp only [Act.put, List.setIfInBounds_toArray, List.set_cons_zero, List.set_cons_succ]
        refine wpAnyH_ready (rs := [0, 8]) (by kernel_rfl) (by simp) ?_
        refine AllReadyH.cons rfl (fun K hK => ?_) (AllReadyH.cons rfl (fun K hK => ?_) AllReadyH.nil)
        · have u3 := run_ldO HPd.out.y
          go_simp
          go_wp2_with fail
          refine hK.out _ _ (HPd.out.x) (fun hHeld => ?_)
          clear hK K
          refine wpAnyH_ready (rs := [8]) (by kernel_rfl) (by simp) ?_
          refine AllReadyH.cons rfl (fun K hK => ?_) ?_
          rotate_left
          · exact AllReadyH.nil
          go_simp
          go_wp2_with fail
          refine (get_any o f wr.drew).mono ?_
          rintro e w5 ⟨rfl, b5⟩
          have HP5 := hide (HPd.out.below b5)
          have u5 := run_ldO HP5.out.y
          refine hK.out _ _ HP5.out.x (fun hHeld => ?_)
          clear hK K
          refine wpAnyH_ready (rs := [9]) (by kernel_rfl) (by simp) ?_
          refine AllReadyH.cons rfl (fun K hK => ?_) ?_
          rotate_left
          · exact AllReadyH.nil
          go_simp
          go_wp2_with fail
          refine (with_any p f (gtN o f) w5).mono ?_
          rintro e w6 ⟨rfl, b6⟩
          have HP6 := hide (HP5.out.below b6)
          obtain ⟨w7, hst7, hy7, k7⟩ := op_put (o := wtN p f (gtN o f)) HP6.out.y
          have HP7 := hide (HP6.out.on k7 hy7)
          refine hK.out _ _ HP6.out.x (fun hHeld => ?_)
          clear hK K
          refine wpAnyH_ready (rs := [10]) (by kernel_rfl) (by simp) ?_
          refine AllReadyH.cons rfl (fun K hK => ?_) ?_
          rotate_left
          · exact AllReadyH.nil
          go_simp
          go_wp2_with fail
          refine hK.out _ _ HP7.out.x (fun hHeld => ?_)
          clear hK K
          refine wpAnyH_done (by kernel_rfl) ?_ _
          clear hHeld
          go_wp2_with fail
          go_roundw
          case rel => exact ⟨i + 1, _, by omega, by go_num, HP7, by show _ = _; rw [HAs.out, HQ.out]⟩
          case measure => simp [intOf]; omega
        · go_simp
          go_wp2_with fail
          refine (get_any o f wr.drew).mono ?_
          rintro e w5 ⟨rfl, b5⟩
          have HP5 := hide (HPd.out.below b5)
          have u5 := run_ldO HP5.out.y
          refine hK.out _ _ HP5.out.x (fun hHeld => ?_)
          clear hK K
          refine wpAnyH_ready (rs := [0]) (by kernel_rfl) (by simp) ?_
          refine AllReadyH.cons rfl (fun K hK => ?_) ?_
          rotate_left
          · exact AllReadyH.nil
          go_simp
          go_wp2_with fail
          refine hK.out _ _ (HP5.out.x) (fun hHeld => ?_)
          clear hK K
          refine wpAnyH_ready (rs := [9]) (by kernel_rfl) (by simp) ?_
          refine AllReadyH.cons rfl (fun K hK => ?_) ?_
          rotate_left
          · exact AllReadyH.nil
          go_simp
          go_wp2_with fail
          refine (with_any p f (gtN o f) w5).mono ?_
          rintro e w6 ⟨rfl, b6⟩
          have HP6 := hide (HP5.out.below b6)
          obtain ⟨w7, hst7, hy7, k7⟩ := op_put (o := wtN p f (gtN o f)) HP6.out.y
          have HP7 := hide (HP6.out.on k7 hy7)
          refine hK.out _ _ HP6.out.x (fun hHeld => ?_)
          clear hK K
          refine wpAnyH_ready (rs := [10]) (by kernel_rfl) (by simp) ?_
          refine AllReadyH.cons rfl (fun K hK => ?_) ?_
          rotate_left
          · exact AllReadyH.nil
          go_simp
          go_wp2_with fail
          refine hK.out _ _ HP7.out.x (fun hHeld => ?_)
          clear hK K
          refine wpAnyH_done (by kernel_rfl) ?_ _
          clear hHeld
          go_wp2_with fail
          go_roundw
          case rel => exact ⟨i + 1, _, by omega, by go_num, HP7, by show _ = _; rw [HAs.out, HQ.out]⟩
          case measure => simp [intOf]; omega
    · obtain rfl : i = m := by omega
      have HE : Hid (plainP o = p) := by show _ = _; rw [HA.out, List.drop_eq_nil_of_le (by have := HM.out; omega)]; rfl
      have hld := run_ldO HP.out.y
      obtain ⟨w6, hst, hx6, k6⟩ := op_put (o := p) HP.out.z
      have HX6 := hide hx6
      have HB6 : Hid (Below w.heap.size w w6) := HP.out.b.trans (k6.below (by have := HP.out.h1; have := HP.out.h12; omega) HP.out.b.size)
      clear hx6 k6
      go_wp2_with fail
      exact bodyPost_ret (res1O Tryd.results11 rfl HX6.out) rfl ⟨by rw [HE.out], HB6.out⟩
set_option maxRecDepth 100000 in
theorem rprintOp_any (o : Sp) (w : World) (ho : Ok o) : Calls Tryd.prog 12 #[.agg (OC o)] w fun e w' => e = .returned (.string (bs (opT o))) ∧ Below w.heap.size w w' := by
  obtain ⟨w1, hw1⟩ : ∃ w1, w.alloc (.cells (OC o) 23) = w1 := ⟨_, rfl⟩
  have hx1 : OBox w1 w.heap.size o := by rw [← hw1]; exact OBox_new w o
  have hb1 : Below w.heap.size w w1 := by rw [← hw1]; exact below_new _ _
  have hld := run_ldO hx1
  have HC := hide (line_any none 0 0 [] o w1 (BR.nil _) (by omega) ho)
  have HB := hide hb1
  clear hx1 hb1
  go_enter Tryd.func12, Tryd.ntmps12
  go_wp2_with (go_at_call 26; refine HC.out.mono ?_; rintro e w2 ⟨bo, m, cc, rfl, hR, hA⟩; have hst := run_str hR; rw [List.nil_append, str_nI] at hst; have HB2 : Hid (Below w.heap.size w w2) := HB.out.trans ⟨hA.grown.os, hA.grown.tape, hA.grown.output, hA.grown.size, fun k hk => hA.grown.block k (Nat.lt_of_lt_of_le hk HB.out.size) (fun e => by cases e)⟩; clear hR hA)
  go_ret
  exact ⟨rfl, HB2.out⟩
end Go.Proofs.YtmemcnjabnpdmaaDoor
