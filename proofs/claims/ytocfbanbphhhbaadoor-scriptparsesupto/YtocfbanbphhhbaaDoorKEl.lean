/- Equal of scripts that say the same. -/
import Derived.Test.YtocfbanbphhhbaaDoorKPo
import Derived.Test.YtocfbanbphhhbaaDoorJPt
import Derived.Laws.StructEq
import Derived.OrdersHeld
namespace Go.Proofs.YtocfbanbphhhbaaDoor
open Go.RowKit T Y V
variable {w w' w2 : World} {g : Nat}

theorem run_eqHd (x : Hdr) (w : World) : (Op.equalIn 10000 23 (.agg (HdC x)) (.agg (HdC x))).run Tryd.prog w = .ok true w := by
  have u3 := Tryd.underlying3
  have a3 := Tryd.isAgg3
  have z3 := Tryd.sizeOf3
  have hS : Tryd.prog.underlying 23 = some (.struct (Tryd.prog.fieldsOf 23)) := by kernel_rfl
  have hp : Tryd.prog.stoodInHeld 23 = false := by kernel_rfl
  obtain ⟨a, b, c, d, e, f⟩ := x
  show (Op.equalIn 10000 23 (.agg #[.int .i64 a, .int .i64 b, .int .i64 c, .int .i64 d, .int .i64 e, .int .i64 f]) (.agg #[.int .i64 a, .int .i64 b, .int .i64 c, .int .i64 d, .int .i64 e, .int .i64 f])).run Tryd.prog w = .ok true w
  rw [show (10000 : Nat) = 9999 + 1 from rfl, run_equalIn_struct w 9999 23 _ _ hS hp]
  simp only [Program.fieldsOf, Tryd.underlying23]
  have h3 : ∀ (p : Int) w, (Op.equalIn 9999 3 (.int .i64 p) (.int .i64 p)).run Tryd.prog w = .ok true w := fun p w => by
    rw [run_equalIn_int w 9998 3 .i64 .i64 p p Tryd.underlying3]; simp
  obtain ⟨D, hD⟩ : ∃ D, 9999 = D := ⟨9999, rfl⟩
  rw [hD] at h3 ⊢
  go_simp
attribute [local go_sem ↓] ldO_eq stO_eq ldS_eq stS_eq ldHd_eq stHd_eq
theorem SBox.hdAt {a b c d e f : Int} {so : Option Addr} {n sc : Nat} (h : SBox w g ⟨a, b, c, d, e, f, so, n, sc⟩) : (ldHd (.pointer (some ⟨g, 0, none⟩))).run Tryd.prog w = .ok (.agg (HdC ⟨a, b, c, d, e, f⟩)) w := by
  have hhd : HdAt w ⟨g, 0, none⟩ ⟨a, b, c, d, e, f⟩ := ⟨h.c0, by rw [Addr.add_lit]; exact h.c1, by rw [Addr.add_lit]; exact h.c2, by rw [Addr.add_lit]; exact h.c3, by rw [Addr.add_lit]; exact h.c4, by rw [Addr.add_lit]; exact h.c5⟩
  exact run_laHd hhd
set_option maxRecDepth 100000 in
set_option maxHeartbeats 3200000 in
theorem equal_true (a b c0 d e f : Int) (so : Option Addr) (n c : Nat) (so' : Option Addr) (n' c' : Nat) (L : List Sp) (w : World) (hS : OSrc w so n c L) (hZ : OSrc w so' n' c' L) (hn : n ≤ 1000000000000) :
    Calls Tryd.prog 8 #[.agg (SC ⟨a, b, c0, d, e, f, so, n, c⟩), .agg (SC ⟨a, b, c0, d, e, f, so', n', c'⟩)] w fun r w' => r = .returned (.bool true) ∧ Below w.heap.size w w' := by
  obtain rfl : n = n' := by rw [← hS.len, ← hZ.len]
  obtain ⟨w1, hw1⟩ : ∃ w1, w.alloc (.cells (SC ⟨a, b, c0, d, e, f, so, n, c⟩) 26) = w1 := ⟨_, rfl⟩
  have hx1 : SBox w1 w.heap.size ⟨a, b, c0, d, e, f, so, n, c⟩ := by rw [← hw1]; exact SBox_new w _
  have hb1 : Below w.heap.size w w1 := by rw [← hw1]; exact below_new _ _
  have hz1 : w1.heap.size = w.heap.size + 1 := by rw [← hw1]; simp
  obtain ⟨w2, hw2⟩ : ∃ w2, w1.alloc (.cells (SC ⟨a, b, c0, d, e, f, so', n, c'⟩) 26) = w2 := ⟨_, rfl⟩
  have hy2 : SBox w2 (w.heap.size + 1) ⟨a, b, c0, d, e, f, so', n, c'⟩ := by rw [← hw2, ← hz1]; exact SBox_new w1 _
  have hb2 : Below w1.heap.size w1 w2 := by rw [← hw2]; exact below_new _ _
  have HX := hide (hx1.below hb2)
  have HY := hide hy2
  have bw2 := hb1.trans (hb2.mono hb1.size)
  have HS := hide (hS.below bw2)
  have HZ := hide (hZ.below bw2)
  have HB0 := hide bw2
  have hlh1 := HX.out.hdAt
  have hlh2 := HY.out.hdAt
  have hc1 := HX.out.c6
  have hc2 := HY.out.c6
  have hEh := run_eqHd ⟨a, b, c0, d, e, f⟩
  clear hx1 hb1 hy2 hb2 hS hZ bw2
  go_enter Tryd.func8, Tryd.ntmps8
  go_wp2_with fail
  clear hlh1 hlh2 hEh
  go_loopw [5] (fun v wr => ∃ k : Nat, k ≤ n ∧ v = .int .i64 (k : Int) ∧ Hid (Below w2.heap.size w2 wr)) (fun v _ => n - (intOf v).toNat)
  case atStart => exact ⟨0, by omega, rfl, Below.refl _ _⟩
  case round =>
    obtain ⟨k, hk, rfl, HB⟩ := hrel
    have d1 := (HX.out.below HB.out).c6
    have d2 := (HY.out.below HB.out).c6
    simp only at d1 d2
    by_cases hlt : k < n
    · obtain ⟨ad, rfl, x⟩ := (HS.out.below HB.out).at k hlt
      obtain ⟨bd, rfl, z⟩ := (HZ.out.below HB.out).at k hlt
      obtain ⟨y, hy⟩ : ∃ y, L.getD k sp0 = y := ⟨_, rfl⟩
      rw [hy] at x z
      have hE : ∀ w, (Op.equalIn 10000 31 (.agg (OC y)) (.agg (OC y))).run Tryd.prog w = .ok true w := fun w => by rw [run_eqO, (eqO_iff _ _).2 rfl]
      have hkI : (k : Int) < n := by omega
      clear hy
      go_wp2_with fail
      refine wp_region_held_drew (S := fun v => v.cell? ⟨w.heap.size, 6, none⟩ = some (.slice (some ad) n c) ∧ v.cell? ⟨w.heap.size + 1, 6, none⟩ = some (.slice (some bd) n c') ∧ (ldO (.pointer (some (ad.add (k * 7))))).run Tryd.prog v = .ok (.agg (OC y)) v ∧ (ldO (.pointer (some (bd.add (k * 7))))).run Tryd.prog v = .ok (.agg (OC y)) v) (by kernel_rfl) (⟨(HX.out.below HB.out).c6, (HY.out.below HB.out).c6, run_laO (x.on (below_drew1 wr)), run_laO (z.on (below_drew1 wr))⟩) (fun hHeld => ?_)
      refine wpAnyH_take (i := 0) (oi := { dst := some 27, op := Op.fieldAddr 26 (Operand.tmp 2) 1, type := 0, pos := "ref.go:400", after := #[], guard := none }) (v := ?_) rfl (by kernel_rfl) (by kernel_rfl) (by kernel_rfl) (fun _ _ _ h => h) (Or.inl ⟨by rfl, ?_⟩) (by assumption) ?_
      rotate_left
      · (intro w hSw; (try dsimp only at hSw); go_simp); first | done | with_reducible rfl
      simp only [Act.put, List.setIfInBounds_toArray, List.set_cons_zero, List.set_cons_succ]
      refine wpAnyH_take (i := 1) (oi := { dst := some 28, op := Op.load 24 (Operand.tmp 27), type := 24, pos := "ref.go:400", after := #[{ on := 0, ground := Ground.data }], guard := none }) (v := ?_) rfl (by kernel_rfl) (by kernel_rfl) (by kernel_rfl) (fun _ _ _ h => h) (Or.inl ⟨by rfl, ?_⟩) (by assumption) ?_
      rotate_left
      · (intro w hSw; (try dsimp only at hSw); have hl := hSw.1; go_simp); first | done | with_reducible rfl
      simp only [Act.put, List.setIfInBounds_toArray, List.set_cons_zero, List.set_cons_succ]
      refine wpAnyH_take (i := 2) (oi := { dst := some 29, op := Op.move (Operand.tmp 5), type := 3, pos := "ref.go:400", after := #[], guard := none }) (v := ?_) rfl (by kernel_rfl) (by kernel_rfl) (by kernel_rfl) (fun _ _ _ h => h) (Or.inl ⟨by rfl, ?_⟩) (by assumption) ?_
      rotate_left
      · (intro w hSw; (try dsimp only at hSw); go_simp); first | done | with_reducible rfl
      simp only [Act.put, List.setIfInBounds_toArray, List.set_cons_zero, List.set_cons_succ]
      refine wpAnyH_take (i := 3) (oi := { dst := some 30, op := Op.indexAddr 24 (Operand.tmp 28) (Operand.tmp 29), type := 0, pos := "ref.go:400", after := #[{ on := 1, ground := Ground.data }, { on := 2, ground := Ground.data }], guard := none }) (v := ?_) rfl (by kernel_rfl) (by kernel_rfl) (by kernel_rfl) (fun _ _ _ h => h) (Or.inl ⟨by rfl, ?_⟩) (by assumption) ?_
      rotate_left
      · (intro w hSw; (try dsimp only at hSw); go_simp); first | done | with_reducible rfl
      simp only [Act.put, List.setIfInBounds_toArray, List.set_cons_zero, List.set_cons_succ]
      refine wpAnyH_take (i := 4) (oi := { dst := some 31, op := Op.load 31 (Operand.tmp 30), type := 31, pos := "ref.go:400", after := #[{ on := 3, ground := Ground.data }], guard := none }) (v := ?_) rfl (by kernel_rfl) (by kernel_rfl) (by kernel_rfl) (fun _ _ _ h => h) (Or.inl ⟨by rfl, ?_⟩) (by assumption) ?_
      rotate_left
      · (intro w hSw; (try dsimp only at hSw); have hl := hSw.2.2.1; go_simp); first | done | with_reducible rfl
      simp only [Act.put, List.setIfInBounds_toArray, List.set_cons_zero, List.set_cons_succ]
      refine wpAnyH_take (i := 5) (oi := { dst := some 32, op := Op.fieldAddr 26 (Operand.tmp 3) 1, type := 0, pos := "ref.go:400", after := #[], guard := none }) (v := ?_) rfl (by kernel_rfl) (by kernel_rfl) (by kernel_rfl) (fun _ _ _ h => h) (Or.inl ⟨by rfl, ?_⟩) (by assumption) ?_
      rotate_left
      · (intro w hSw; (try dsimp only at hSw); go_simp); first | done | with_reducible rfl
      simp only [Act.put, List.setIfInBounds_toArray, List.set_cons_zero, List.set_cons_succ]
      refine wpAnyH_take (i := 6) (oi := { dst := some 33, op := Op.load 24 (Operand.tmp 32), type := 24, pos := "ref.go:400", after := #[{ on := 5, ground := Ground.data }], guard := none }) (v := ?_) rfl (by kernel_rfl) (by kernel_rfl) (by kernel_rfl) (fun _ _ _ h => h) (Or.inl ⟨by rfl, ?_⟩) (by assumption) ?_
      rotate_left
      · (intro w hSw; (try dsimp only at hSw); have hl := hSw.2.1; go_simp); first | done | with_reducible rfl
      simp only [Act.put, List.setIfInBounds_toArray, List.set_cons_zero, List.set_cons_succ]
      refine wpAnyH_take (i := 7) (oi := { dst := some 34, op := Op.move (Operand.tmp 5), type := 3, pos := "ref.go:400", after := #[], guard := none }) (v := ?_) rfl (by kernel_rfl) (by kernel_rfl) (by kernel_rfl) (fun _ _ _ h => h) (Or.inl ⟨by rfl, ?_⟩) (by assumption) ?_
      rotate_left
      · (intro w hSw; (try dsimp only at hSw); go_simp); first | done | with_reducible rfl
      simp only [Act.put, List.setIfInBounds_toArray, List.set_cons_zero, List.set_cons_succ]
      refine wpAnyH_take (i := 8) (oi := { dst := some 35, op := Op.indexAddr 24 (Operand.tmp 33) (Operand.tmp 34), type := 0, pos := "ref.go:400", after := #[{ on := 6, ground := Ground.data }, { on := 7, ground := Ground.data }], guard := none }) (v := ?_) rfl (by kernel_rfl) (by kernel_rfl) (by kernel_rfl) (fun _ _ _ h => h) (Or.inl ⟨by rfl, ?_⟩) (by assumption) ?_
      rotate_left
      · (intro w hSw; (try dsimp only at hSw); go_simp); first | done | with_reducible rfl
      simp only [Act.put, List.setIfInBounds_toArray, List.set_cons_zero, List.set_cons_succ]
      refine wpAnyH_take (i := 9) (oi := { dst := some 36, op := Op.load 31 (Operand.tmp 35), type := 31, pos := "ref.go:400", after := #[{ on := 8, ground := Ground.data }], guard := none }) (v := ?_) rfl (by kernel_rfl) (by kernel_rfl) (by kernel_rfl) (fun _ _ _ h => h) (Or.inl ⟨by rfl, ?_⟩) (by assumption) ?_
      rotate_left
      · (intro w hSw; (try dsimp only at hSw); have hl := hSw.2.2.2; go_simp); first | done | with_reducible rfl
      simp only [Act.put, List.setIfInBounds_toArray, List.set_cons_zero, List.set_cons_succ]
      refine wpAnyH_take (i := 10) (oi := { dst := some 37, op := Op.binOp BinOp.neq 31 (Operand.tmp 31) (Operand.tmp 36) 31, type := 4, pos := "ref.go:400", after := #[{ on := 4, ground := Ground.data }, { on := 9, ground := Ground.data }], guard := none }) (v := ?_) rfl (by kernel_rfl) (by kernel_rfl) (by kernel_rfl) (fun _ _ _ h => h) (Or.inl ⟨by rfl, ?_⟩) (by assumption) ?_
      rotate_left
      · (intro w hSw; (try dsimp only at hSw); have hl := hE w; go_simp); first | done | with_reducible rfl
      simp only [Act.put, List.setIfInBounds_toArray, List.set_cons_zero, List.set_cons_succ]
      refine wpAnyH_done (by kernel_rfl) ?_ _
      clear hHeld
      go_wp2_with fail
      go_roundw
      case rel => exact ⟨k + 1, by omega, by go_num, HB.out.trans ((below_drew1 wr).mono HB.out.size)⟩
      case measure => simp [intOf]; omega
    · have hkI : ¬ (k : Int) < n := by omega
      go_wp2_with fail
      go_ret
      exact ⟨rfl, HB0.out.trans (HB.out.mono HB0.out.size)⟩
end Go.Proofs.YtocfbanbphhhbaaDoor
