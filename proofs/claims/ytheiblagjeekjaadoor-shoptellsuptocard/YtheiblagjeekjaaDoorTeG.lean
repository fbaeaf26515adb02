/- The reference's Tell. -/
import Derived.Test.YtheiblagjeekjaaDoorTeF
namespace Go.Proofs.YtheiblagjeekjaaDoor
open Go.RowKit
variable {w w' : World} {g : Nat}
attribute [local go_sem ↓] ldLn_eq stLn_eq ldAn_eq stAn_eq

/-- an answer's first line -/
def hdT (n st tok msg : Int) : List UInt8 := num n ++ [32] ++ wordL st ++ tkT tokL tok ++ tkT msgL msg ++ [10]
theorem hdT_len {n st tok msg : Int} (h1 : R64 n) (h2 : R64 st) (h3 : R64 tok) (h4 : R64 msg) : (hdT n st tok msg).length ≤ 200 := by
  have e1 := h1.len
  have e2 := h2.word
  have e3 := h3.len
  have e4 := h4.len
  unfold hdT tkT
  split <;> split <;> simp [tokL, msgL] <;> omega
theorem str_eq {a b : ByteArray} (h : a = b) : Value.string a = .string b := by rw [h]
set_option maxRecDepth 100000 in
set_option maxHeartbeats 6400000 in
theorem rtell_any (n st tok msg : Int) (lno : Option Addr) (lnn lnc : Nat) (Q : List Lne) (w : World) (hn : R64 n) (hs : R64 st) (htk : R64 tok) (hms : R64 msg) (hq : LnSrc w lno lnn lnc Q) (hr : ∀ m, m ∈ Q → Rn m) (hl : wtL Q ≤ 100000000) :
    Calls Tryd.prog 8 #[.int .i64 n, .agg #[.int .i64 st, .slice lno lnn lnc, .int .i64 tok, .int .i64 msg]] w fun e w' => e = .returned (.string (bs (tellT n ⟨st, lno, lnn, lnc, tok, msg⟩ Q))) ∧ Below w.heap.size w w' := by
  obtain ⟨w1, hw1⟩ : ∃ w1, w.alloc (.cells #[.int .i64 st, .slice lno lnn lnc, .int .i64 tok, .int .i64 msg] 28) = w1 := ⟨_, rfl⟩
  have hbx : AnBox w1 w.heap.size ⟨st, lno, lnn, lnc, tok, msg⟩ := by rw [← hw1]; exact AnBox_new w ⟨st, lno, lnn, lnc, tok, msg⟩
  have hbl : Below w.heap.size w w1 := by rw [← hw1]; exact below_new _ _
  have HQ := hide (hq.below hbl)
  have hlen := hq.len
  have HC : Hid (∀ w, Calls Tryd.prog 11 #[.int .i64 n] w fun r w' => r = .returned (.string (bs (num n))) ∧ Below w.heap.size w w') := fun w => number_any n hn.lo hn.hi w
  have HCt : Hid (∀ w, Calls Tryd.prog 11 #[.int .i64 tok] w fun r w' => r = .returned (.string (bs (num tok))) ∧ Below w.heap.size w w') := fun w => number_any tok htk.lo htk.hi w
  have HCm : Hid (∀ w, Calls Tryd.prog 11 #[.int .i64 msg] w fun r w' => r = .returned (.string (bs (num msg))) ∧ Below w.heap.size w w') := fun w => number_any msg hms.lo hms.hi w
  have HW : Hid (∀ w, Calls Tryd.prog 6 #[.int .i64 st] w fun r w' => r = .returned (.string (bs (wordL st))) ∧ Below w.heap.size w w') := fun w => refWord_any st hs.lo hs.hi w
  have hn1 : (bs (num n)).size ≤ 21 := by rw [bs_size]; exact hn.len
  have hn2 : (bs (wordL st)).size ≤ 27 := by rw [bs_size]; exact hs.word
  have hn3 : (bs (num tok)).size ≤ 21 := by rw [bs_size]; exact htk.len
  have hn4 : (bs (num msg)).size ≤ 21 := by rw [bs_size]; exact hms.len
  have hs1 : (⟨#[32]⟩ : ByteArray).size = 1 := rfl
  have hs2 : (⟨#[10]⟩ : ByteArray).size = 1 := rfl
  have hs3 : (⟨#[32, 116, 111, 107, 101, 110, 32]⟩ : ByteArray).size = 7 := rfl
  have hs4 : (⟨#[32, 109, 101, 115, 115, 97, 103, 101, 32]⟩ : ByteArray).size = 9 := rfl
  have HH := hide (hdT_len hn hs htk hms)
  have HR := hide hr
  have HM := hide hl
  have hwl := wtL_len Q
  have HX := hide hbx
  have HB := hide hbl
  have c0 := hbx.c0
  simp only at c0
  clear hbx hbl hq hr hn hs htk hms
  go_enter Tryd.func8, Tryd.ntmps8
  go_wp2
  refine wp_region_held_drew (S := fun v => v.cell? ⟨w.heap.size, 0, none⟩ = some (.int .i64 st)) (by kernel_rfl) (c0) (fun hHeld => ?_)
  refine wpAnyH_take (i := 0) (oi := { dst := some 8, op := Op.move (Operand.tmp 0), type := 3, pos := "ref.go:77", after := #[], guard := none }) (v := ?_) rfl (by kernel_rfl) (by kernel_rfl) (by kernel_rfl) (fun _ _ _ h => h) (Or.inl ⟨by rfl, ?_⟩) (by assumption) ?_
  rotate_left
  · (intro w hSw; (try dsimp only at hSw); go_simp); first | done | with_reducible rfl
  simp only [Act.put, List.setIfInBounds_toArray, List.set_cons_zero, List.set_cons_succ]
  refine wpAnyH_take (i := 3) (oi := { dst := some 11, op := Op.fieldAddr 28 (Operand.tmp 3) 0, type := 0, pos := "ref.go:77", after := #[], guard := none }) (v := ?_) rfl (by kernel_rfl) (by kernel_rfl) (by kernel_rfl) (fun _ _ _ h => h) (Or.inl ⟨by rfl, ?_⟩) (by assumption) ?_
  rotate_left
  · (intro w hSw; (try dsimp only at hSw); go_simp); first | done | with_reducible rfl
  simp only [Act.put, List.setIfInBounds_toArray, List.set_cons_zero, List.set_cons_succ]
  refine wpAnyH_take (i := 4) (oi := { dst := some 12, op := Op.load 23 (Operand.tmp 11), type := 23, pos := "ref.go:77", after := #[{ on := 3, ground := Ground.data }], guard := none }) (v := ?_) rfl (by kernel_rfl) (by kernel_rfl) (by kernel_rfl) (fun _ _ _ h => h) (Or.inl ⟨by rfl, ?_⟩) (by assumption) ?_
  rotate_left
  · (intro w hSw; (try dsimp only at hSw); go_simp); first | done | with_reducible rfl
  simp only [Act.put, List.setIfInBounds_toArray, List.set_cons_zero, List.set_cons_succ]
  refine wpAnyH_ready (rs := [1]) (by kernel_rfl) (by simp) ?_
  refine AllReadyH.cons rfl (fun K hK => ?_) ?_
  rotate_left
  · exact AllReadyH.nil
  go_simp
  go_wp2_with fail
  refine (HC.out _).mono ?_
  rintro e w2 ⟨rfl, b2⟩
  have B2 := (below_drew1 w1).trans b2
  have X2 := HX.out.below B2
  refine hK.out _ _ X2.c0 (fun hHeld => ?_)
  clear hK K
  refine wpAnyH_take (i := 2) (oi := { dst := some 10, op := Op.binOp BinOp.add 9 (Operand.tmp 9) (Operand.const (Value.string { data := #[32] })) 9, type := 9, pos := "ref.go:77", after := #[{ on := 1, ground := Ground.data }], guard := none }) (v := ?_) rfl (by kernel_rfl) (by kernel_rfl) (by kernel_rfl) (fun _ _ _ h => h) (Or.inl ⟨by rfl, ?_⟩) (by assumption) ?_
  rotate_left
  · (intro w hSw; (try dsimp only at hSw); go_simp; rw [if_neg (by omega)]); first | done | with_reducible rfl
  simp only [Act.put, List.setIfInBounds_toArray, List.set_cons_zero, List.set_cons_succ]
  refine wpAnyH_ready (rs := [5]) (by kernel_rfl) (by simp) ?_
  refine AllReadyH.cons rfl (fun K hK => ?_) ?_
  rotate_left
  · exact AllReadyH.nil
  go_simp
  go_wp2_with fail
  refine (HW.out _).mono ?_
  rintro e w3 ⟨rfl, b3⟩
  have B3 : Below w1.heap.size w1 w3 := B2.trans (b3.mono B2.size)
  have X3 := HX.out.below B3
  refine hK.out _ _ X3.c0 (fun hHeld => ?_)
  clear hK K
  refine wpAnyH_take (i := 6) (oi := { dst := some 14, op := Op.binOp BinOp.add 9 (Operand.tmp 10) (Operand.tmp 13) 9, type := 9, pos := "ref.go:77", after := #[{ on := 2, ground := Ground.data }, { on := 5, ground := Ground.data }], guard := none }) (v := ?_) rfl (by kernel_rfl) (by kernel_rfl) (by kernel_rfl) (fun _ _ _ h => h) (Or.inl ⟨by rfl, ?_⟩) (by assumption) ?_
  rotate_left
  · (intro w hSw; (try dsimp only at hSw); go_simp; rw [if_neg (by omega)]); first | done | with_reducible rfl
  simp only [Act.put, List.setIfInBounds_toArray, List.set_cons_zero, List.set_cons_succ]
  refine wpAnyH_take (i := 7) (oi := { dst := some 5, op := Op.assign (Operand.tmp 14), type := 9, pos := "ref.go:77", after := #[{ on := 6, ground := Ground.data }, { on := 5, ground := Ground.chain }, { on := 0, ground := Ground.phase }, { on := 1, ground := Ground.phase }, { on := 2, ground := Ground.phase }, { on := 3, ground := Ground.phase }, { on := 4, ground := Ground.phase }, { on := 5, ground := Ground.phase }, { on := 6, ground := Ground.phase }], guard := none }) (v := ?_) rfl (by kernel_rfl) (by kernel_rfl) (by kernel_rfl) (fun _ _ _ h => h) (Or.inl ⟨by rfl, ?_⟩) (by assumption) ?_
  rotate_left
  · (intro w hSw; (try dsimp only at hSw); go_simp); first | done | with_reducible rfl
  simp only [Act.put, List.setIfInBounds_toArray, List.set_cons_zero, List.set_cons_succ]
  refine wpAnyH_done (by kernel_rfl) ?_ _
  clear hHeld
  have d1 := X3.c1
  have d2 := X3.c2
  have d3 := X3.c3
  simp only at d1 d2 d3
  by_cases htz : tok = 0
  · by_cases hmz : msg = 0
    · subst htz
      subst hmz
      have ht0 : Hid (tkT tokL 0 = []) := by show _ = _; unfold tkT; rw [if_pos rfl]
      have hm0 : Hid (tkT msgL 0 = []) := by show _ = _; unfold tkT; rw [if_pos rfl]
      go_wp2_with (first | fail)
      go_loopw [5, 38] (fun t v wr => ∃ k : Nat, k ≤ lnn ∧ v = .int .i64 (k : Int) ∧ t = .string (bs (hdT n st 0 0 ++ lnsT (Q.take k))) ∧ Hid (Below w1.heap.size w1 wr)) (fun _ v _ => lnn - (intOf v).toNat)
      case atStart => exact ⟨0, by omega, rfl, str_eq (by unfold hdT; rw [ht0.out, hm0.out]; apply ByteArray.ext; simp [bs, lnsT, ByteArray.data_append]), B3⟩
      case round =>
        obtain ⟨k, hk, rfl, rfl, HK⟩ := hrel
        have hln : (lnsT (Q.take k)).length ≤ wtL (Q.take k) := lnsT_len (fun m hm => HR.out m (List.mem_of_mem_take hm))
        by_cases hlt : k < lnn
        · have hkq : k < Q.length := by omega
          obtain ⟨ad, rfl, x⟩ := (HQ.out.below HK.out).at k hlt
          obtain ⟨y, hy⟩ : ∃ y, Q.getD k ln0 = y := ⟨_, rfl⟩
          have hym : Rn y := HR.out y (by rw [← hy]; simp [List.getD, hkq])
          have hwt := wtL_take hkq
          rw [hy] at x hwt
          have HE : Hid (lnsT (Q.take (k + 1)) = lnsT (Q.take k) ++ lnT y) := by show _ = _; rw [take_at Q k hkq, lnsT_app, hy, lnsT_one]
          have hy1 : (bs (lnT y)).size ≤ y.sku.size + 64 := by rw [bs_size]; exact lnT_len hym
          have hz1 : (bs (hdT n st 0 0 ++ lnsT (Q.take k))).size ≤ 200 + wtL (Q.take k) := by rw [bs_size, List.length_append]; have := HH.out; omega
          have happ := bs_app (hdT n st 0 0 ++ lnsT (Q.take k)) (lnT y)
          have HSh : Hid (∀ w, Calls Tryd.prog 14 #[.agg #[.string y.sku, .int .i64 y.qty, .int .i64 y.parts]] w fun r w' => r = .returned (.string (bs (lnT y))) ∧ Below w.heap.size w w') := fun w => shopping_any y w hym (by omega)
          have x0 : (ldLn (.pointer (some (ad.add (k * 3))))).run Tryd.prog wr = .ok (.agg #[.string y.sku, .int .i64 y.qty, .int .i64 y.parts]) wr := run_laLn x
          obtain ⟨w6, hst, hbx6, hbl6, -⟩ := madeLn wr y wr.heap.size rfl
          have hst' : (stLn (.pointer (some ⟨wr.heap.size, 0, none⟩)) (.agg #[.string y.sku, .int .i64 y.qty, .int .i64 y.parts])).run Tryd.prog (wr.alloc (.cells #[.string ⟨#[]⟩, .int .i64 0, .int .i64 0] 31)) = .ok () w6 := hst
          have hld : (ldLn (.pointer (some ⟨wr.heap.size, 0, none⟩))).run Tryd.prog w6 = .ok (.agg #[.string y.sku, .int .i64 y.qty, .int .i64 y.parts]) w6 := run_ldLn hbx6
          have HK6 := hide (HK.out.trans (hbl6.mono HK.out.size))
          clear hst hbx6 hbl6 x hy hym
          go_wp2_with (go_at_call 14; refine (HSh.out _).mono ?_; rintro e w7 ⟨rfl, b7⟩)
          go_roundw
          case rel => exact ⟨k + 1, by omega, by go_num, str_eq (by rw [HE.out, ← List.append_assoc]), HK6.out.trans (b7.mono HK6.out.size)⟩
          case measure => simp [intOf]; omega
        · obtain rfl : k = lnn := by omega
          have HF : Hid (Q.take k = Q) := List.take_of_length_le (by omega)
          go_wp2
          go_ret
          exact ⟨ret_str (by rw [HF.out]; unfold tellT hdT; rfl), HB.out.trans (HK.out.mono HB.out.size)⟩
    · subst htz
      have ht0 : Hid (tkT tokL 0 = []) := by show _ = _; unfold tkT; rw [if_pos rfl]
      have hm0 : Hid (tkT msgL msg = msgL ++ num msg) := by show _ = _; unfold tkT; rw [if_neg hmz]
      go_wp2_with (first | (go_at_call 11; have hB4 := B3; refine (HCm.out _).mono ?_; rintro e w5 ⟨rfl, b5⟩; have B5 := B3.trans (b5.mono B3.size); have X5 := HX.out.below B5; have e1 := X5.c1; simp only at e1))
      go_loopw [5, 38] (fun t v wr => ∃ k : Nat, k ≤ lnn ∧ v = .int .i64 (k : Int) ∧ t = .string (bs (hdT n st 0 msg ++ lnsT (Q.take k))) ∧ Hid (Below w1.heap.size w1 wr)) (fun _ v _ => lnn - (intOf v).toNat)
      case atStart => exact ⟨0, by omega, rfl, str_eq (by unfold hdT; rw [ht0.out, hm0.out]; apply ByteArray.ext; simp [bs, lnsT, msgL, ByteArray.data_append]), B5⟩
      case round =>
        obtain ⟨k, hk, rfl, rfl, HK⟩ := hrel
        have hln : (lnsT (Q.take k)).length ≤ wtL (Q.take k) := lnsT_len (fun m hm => HR.out m (List.mem_of_mem_take hm))
        by_cases hlt : k < lnn
        · have hkq : k < Q.length := by omega
          obtain ⟨ad, rfl, x⟩ := (HQ.out.below HK.out).at k hlt
          obtain ⟨y, hy⟩ : ∃ y, Q.getD k ln0 = y := ⟨_, rfl⟩
          have hym : Rn y := HR.out y (by rw [← hy]; simp [List.getD, hkq])
          have hwt := wtL_take hkq
          rw [hy] at x hwt
          have HE : Hid (lnsT (Q.take (k + 1)) = lnsT (Q.take k) ++ lnT y) := by show _ = _; rw [take_at Q k hkq, lnsT_app, hy, lnsT_one]
          have hy1 : (bs (lnT y)).size ≤ y.sku.size + 64 := by rw [bs_size]; exact lnT_len hym
          have hz1 : (bs (hdT n st 0 msg ++ lnsT (Q.take k))).size ≤ 200 + wtL (Q.take k) := by rw [bs_size, List.length_append]; have := HH.out; omega
          have happ := bs_app (hdT n st 0 msg ++ lnsT (Q.take k)) (lnT y)
          have HSh : Hid (∀ w, Calls Tryd.prog 14 #[.agg #[.string y.sku, .int .i64 y.qty, .int .i64 y.parts]] w fun r w' => r = .returned (.string (bs (lnT y))) ∧ Below w.heap.size w w') := fun w => shopping_any y w hym (by omega)
          have x0 : (ldLn (.pointer (some (ad.add (k * 3))))).run Tryd.prog wr = .ok (.agg #[.string y.sku, .int .i64 y.qty, .int .i64 y.parts]) wr := run_laLn x
          obtain ⟨w6, hst, hbx6, hbl6, -⟩ := madeLn wr y wr.heap.size rfl
          have hst' : (stLn (.pointer (some ⟨wr.heap.size, 0, none⟩)) (.agg #[.string y.sku, .int .i64 y.qty, .int .i64 y.parts])).run Tryd.prog (wr.alloc (.cells #[.string ⟨#[]⟩, .int .i64 0, .int .i64 0] 31)) = .ok () w6 := hst
          have hld : (ldLn (.pointer (some ⟨wr.heap.size, 0, none⟩))).run Tryd.prog w6 = .ok (.agg #[.string y.sku, .int .i64 y.qty, .int .i64 y.parts]) w6 := run_ldLn hbx6
          have HK6 := hide (HK.out.trans (hbl6.mono HK.out.size))
          clear hst hbx6 hbl6 x hy hym
          go_wp2_with (go_at_call 14; refine (HSh.out _).mono ?_; rintro e w7 ⟨rfl, b7⟩)
          go_roundw
          case rel => exact ⟨k + 1, by omega, by go_num, str_eq (by rw [HE.out, ← List.append_assoc]), HK6.out.trans (b7.mono HK6.out.size)⟩
          case measure => simp [intOf]; omega
        · obtain rfl : k = lnn := by omega
          have HF : Hid (Q.take k = Q) := List.take_of_length_le (by omega)
          go_wp2
          go_ret
          exact ⟨ret_str (by rw [HF.out]; unfold tellT hdT; rfl), HB.out.trans (HK.out.mono HB.out.size)⟩
  · by_cases hmz : msg = 0
    · subst hmz
      have ht0 : Hid (tkT tokL tok = tokL ++ num tok) := by show _ = _; unfold tkT; rw [if_neg htz]
      have hm0 : Hid (tkT msgL 0 = []) := by show _ = _; unfold tkT; rw [if_pos rfl]
      go_wp2_with (first | (go_at_call 11; refine (HCt.out _).mono ?_; rintro e w4 ⟨rfl, b4⟩; have B4 := B3.trans (b4.mono B3.size); have X4 := HX.out.below B4; have f1 := X4.c1; have f3 := X4.c3; simp only at f1 f3))
      go_loopw [5, 38] (fun t v wr => ∃ k : Nat, k ≤ lnn ∧ v = .int .i64 (k : Int) ∧ t = .string (bs (hdT n st tok 0 ++ lnsT (Q.take k))) ∧ Hid (Below w1.heap.size w1 wr)) (fun _ v _ => lnn - (intOf v).toNat)
      case atStart => exact ⟨0, by omega, rfl, str_eq (by unfold hdT; rw [ht0.out, hm0.out]; apply ByteArray.ext; simp [bs, lnsT, tokL, ByteArray.data_append]), B4⟩
      case round =>
        obtain ⟨k, hk, rfl, rfl, HK⟩ := hrel
        have hln : (lnsT (Q.take k)).length ≤ wtL (Q.take k) := lnsT_len (fun m hm => HR.out m (List.mem_of_mem_take hm))
        by_cases hlt : k < lnn
        · have hkq : k < Q.length := by omega
          obtain ⟨ad, rfl, x⟩ := (HQ.out.below HK.out).at k hlt
          obtain ⟨y, hy⟩ : ∃ y, Q.getD k ln0 = y := ⟨_, rfl⟩
          have hym : Rn y := HR.out y (by rw [← hy]; simp [List.getD, hkq])
          have hwt := wtL_take hkq
          rw [hy] at x hwt
          have HE : Hid (lnsT (Q.take (k + 1)) = lnsT (Q.take k) ++ lnT y) := by show _ = _; rw [take_at Q k hkq, lnsT_app, hy, lnsT_one]
          have hy1 : (bs (lnT y)).size ≤ y.sku.size + 64 := by rw [bs_size]; exact lnT_len hym
          have hz1 : (bs (hdT n st tok 0 ++ lnsT (Q.take k))).size ≤ 200 + wtL (Q.take k) := by rw [bs_size, List.length_append]; have := HH.out; omega
          have happ := bs_app (hdT n st tok 0 ++ lnsT (Q.take k)) (lnT y)
          have HSh : Hid (∀ w, Calls Tryd.prog 14 #[.agg #[.string y.sku, .int .i64 y.qty, .int .i64 y.parts]] w fun r w' => r = .returned (.string (bs (lnT y))) ∧ Below w.heap.size w w') := fun w => shopping_any y w hym (by omega)
          have x0 : (ldLn (.pointer (some (ad.add (k * 3))))).run Tryd.prog wr = .ok (.agg #[.string y.sku, .int .i64 y.qty, .int .i64 y.parts]) wr := run_laLn x
          obtain ⟨w6, hst, hbx6, hbl6, -⟩ := madeLn wr y wr.heap.size rfl
          have hst' : (stLn (.pointer (some ⟨wr.heap.size, 0, none⟩)) (.agg #[.string y.sku, .int .i64 y.qty, .int .i64 y.parts])).run Tryd.prog (wr.alloc (.cells #[.string ⟨#[]⟩, .int .i64 0, .int .i64 0] 31)) = .ok () w6 := hst
          have hld : (ldLn (.pointer (some ⟨wr.heap.size, 0, none⟩))).run Tryd.prog w6 = .ok (.agg #[.string y.sku, .int .i64 y.qty, .int .i64 y.parts]) w6 := run_ldLn hbx6
          have HK6 := hide (HK.out.trans (hbl6.mono HK.out.size))
          clear hst hbx6 hbl6 x hy hym
          go_wp2_with (go_at_call 14; refine (HSh.out _).mono ?_; rintro e w7 ⟨rfl, b7⟩)
          go_roundw
          case rel => exact ⟨k + 1, by omega, by go_num, str_eq (by rw [HE.out, ← List.append_assoc]), HK6.out.trans (b7.mono HK6.out.size)⟩
          case measure => simp [intOf]; omega
        · obtain rfl : k = lnn := by omega
          have HF : Hid (Q.take k = Q) := List.take_of_length_le (by omega)
          go_wp2
          go_ret
          exact ⟨ret_str (by rw [HF.out]; unfold tellT hdT; rfl), HB.out.trans (HK.out.mono HB.out.size)⟩
    · have ht0 : Hid (tkT tokL tok = tokL ++ num tok) := by show _ = _; unfold tkT; rw [if_neg htz]
      have hm0 : Hid (tkT msgL msg = msgL ++ num msg) := by show _ = _; unfold tkT; rw [if_neg hmz]
      go_wp2_with (first | (go_at_call 11; have hB4 := B4; refine (HCm.out _).mono ?_; rintro e w5 ⟨rfl, b5⟩; have B5 := B4.trans (b5.mono B4.size); have X5 := HX.out.below B5; have e1 := X5.c1; simp only at e1) | (go_at_call 11; refine (HCt.out _).mono ?_; rintro e w4 ⟨rfl, b4⟩; have B4 := B3.trans (b4.mono B3.size); have X4 := HX.out.below B4; have f1 := X4.c1; have f3 := X4.c3; simp only at f1 f3))
      go_loopw [5, 38] (fun t v wr => ∃ k : Nat, k ≤ lnn ∧ v = .int .i64 (k : Int) ∧ t = .string (bs (hdT n st tok msg ++ lnsT (Q.take k))) ∧ Hid (Below w1.heap.size w1 wr)) (fun _ v _ => lnn - (intOf v).toNat)
      case atStart => exact ⟨0, by omega, rfl, str_eq (by unfold hdT; rw [ht0.out, hm0.out]; apply ByteArray.ext; simp [bs, lnsT, tokL, msgL, ByteArray.data_append]), B5⟩
      case round =>
        obtain ⟨k, hk, rfl, rfl, HK⟩ := hrel
        have hln : (lnsT (Q.take k)).length ≤ wtL (Q.take k) := lnsT_len (fun m hm => HR.out m (List.mem_of_mem_take hm))
        by_cases hlt : k < lnn
        · have hkq : k < Q.length := by omega
          obtain ⟨ad, rfl, x⟩ := (HQ.out.below HK.out).at k hlt
          obtain ⟨y, hy⟩ : ∃ y, Q.getD k ln0 = y := ⟨_, rfl⟩
          have hym : Rn y := HR.out y (by rw [← hy]; simp [List.getD, hkq])
          have hwt := wtL_take hkq
          rw [hy] at x hwt
          have HE : Hid (lnsT (Q.take (k + 1)) = lnsT (Q.take k) ++ lnT y) := by show _ = _; rw [take_at Q k hkq, lnsT_app, hy, lnsT_one]
          have hy1 : (bs (lnT y)).size ≤ y.sku.size + 64 := by rw [bs_size]; exact lnT_len hym
          have hz1 : (bs (hdT n st tok msg ++ lnsT (Q.take k))).size ≤ 200 + wtL (Q.take k) := by rw [bs_size, List.length_append]; have := HH.out; omega
          have happ := bs_app (hdT n st tok msg ++ lnsT (Q.take k)) (lnT y)
          have HSh : Hid (∀ w, Calls Tryd.prog 14 #[.agg #[.string y.sku, .int .i64 y.qty, .int .i64 y.parts]] w fun r w' => r = .returned (.string (bs (lnT y))) ∧ Below w.heap.size w w') := fun w => shopping_any y w hym (by omega)
          have x0 : (ldLn (.pointer (some (ad.add (k * 3))))).run Tryd.prog wr = .ok (.agg #[.string y.sku, .int .i64 y.qty, .int .i64 y.parts]) wr := run_laLn x
          obtain ⟨w6, hst, hbx6, hbl6, -⟩ := madeLn wr y wr.heap.size rfl
          have hst' : (stLn (.pointer (some ⟨wr.heap.size, 0, none⟩)) (.agg #[.string y.sku, .int .i64 y.qty, .int .i64 y.parts])).run Tryd.prog (wr.alloc (.cells #[.string ⟨#[]⟩, .int .i64 0, .int .i64 0] 31)) = .ok () w6 := hst
          have hld : (ldLn (.pointer (some ⟨wr.heap.size, 0, none⟩))).run Tryd.prog w6 = .ok (.agg #[.string y.sku, .int .i64 y.qty, .int .i64 y.parts]) w6 := run_ldLn hbx6
          have HK6 := hide (HK.out.trans (hbl6.mono HK.out.size))
          clear hst hbx6 hbl6 x hy hym
          go_wp2_with (go_at_call 14; refine (HSh.out _).mono ?_; rintro e w7 ⟨rfl, b7⟩)
          go_roundw
          case rel => exact ⟨k + 1, by omega, by go_num, str_eq (by rw [HE.out, ← List.append_assoc]), HK6.out.trans (b7.mono HK6.out.size)⟩
          case measure => simp [intOf]; omega
        · obtain rfl : k = lnn := by omega
          have HF : Hid (Q.take k = Q) := List.take_of_length_le (by omega)
          go_wp2
          go_ret
          exact ⟨ret_str (by rw [HF.out]; unfold tellT hdT; rfl), HB.out.trans (HK.out.mono HB.out.size)⟩
end Go.Proofs.YtheiblagjeekjaaDoor
