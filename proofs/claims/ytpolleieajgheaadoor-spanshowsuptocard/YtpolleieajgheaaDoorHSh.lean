/- The reference's Show. -/
import Derived.Test.YtpolleieajgheaaDoorHDg
import Derived.Test.YtpolleieajgheaaDoorHIt
import Derived.Test.YtpolleieajgheaaDoorSKn
import Derived.Laws.BytesArg
namespace Go.Proofs.YtpolleieajgheaaDoor
open Go.RowKit T Y
variable {w w' w2 : World} {g : Nat}

theorem BR.str {ao : Option Addr} {n cap : Nat} {Z : List Int} (h : BR w ao n cap Z) : (convert 31 9 (.slice ao n cap)).run Tryd.prog w = .ok (.string (strOfNums Z)) w := by
  have hl := h.len
  rcases h.2 with ⟨h0, h00⟩ | ⟨q, cap2, cur, hv, r⟩
  · simp only [Value.slice.injEq] at h0
    obtain ⟨rfl, e0, rfl⟩ := h0
    subst e0
    have e := List.eq_nil_of_length_eq_zero hl
    subst e
    rw [run_convert_bytes_nil w 31 5 Tryd.underlying31 Tryd.underlying5 0 0 9 Tryd.underlying9]
    rfl
  · simp only [Value.slice.injEq, true_and] at hv
    obtain ⟨rfl, rfl⟩ := hv
    refine run_convert_bytes_arg w 31 5 Tryd.underlying31 Tryd.underlying5 q 0 n cap Z hl (fun i hi => ?_) 9 Tryd.underlying9
    rw [Nat.zero_add, World.ownsRow.cellAt (show w.ownsRow 0 5 1 (.slice (some ⟨q, 0, none⟩) n cap) n (bcs Z) from h) i (by omega), bcs_at Z i (by omega)]
/-- runs as numbers, each with a comma behind it but the last -/
theorem rnT_one {r : Rn} (h : r.lo = r.hi) : rnT r = num r.lo := by unfold rnT; rw [if_pos h]
theorem rnT_two {r : Rn} (h : ¬ r.lo = r.hi) : rnT r = num r.lo ++ [46, 46] ++ num r.hi := by unfold rnT; rw [if_neg h]
theorem num_nat (u : Nat) : num (u : Int) = Lib.decDigits u := by unfold num Lib.itoa; rw [if_neg (by omega)]; simp
/-- a run of a form -/
structure Gd (r : Rn) : Prop where
  lo : 1 ≤ r.lo
  le : r.lo ≤ r.hi
  hi : r.hi ≤ 1000000000
theorem form_gd : ∀ {R : List Rn} {l : Int}, 1 ≤ l → form l R → ∀ r, r ∈ R → Gd r
  | [], _, _, _, r, hr => by cases hr
  | a :: R, l, hl, h, r, hr => by
    obtain ⟨h1, h2, h3, h4⟩ := h
    rcases List.mem_cons.1 hr with rfl | hr
    · exact ⟨by omega, h2, h3⟩
    · exact form_gd (by omega) h4 r hr
theorem Gd.len {r : Rn} (h : Gd r) : (rnT r).length ≤ 44 := by
  have h1 := num_len r.lo (by have := h.lo; omega) (by have := h.le; have := h.hi; omega)
  have h2 := num_len r.hi (by have := h.lo; have := h.le; omega) (by have := h.hi; omega)
  unfold rnT
  split
  · omega
  · simp; omega
theorem runsT_len : ∀ {R : List Rn}, (∀ r, r ∈ R → Gd r) → (runsT R).length ≤ 45 * R.length
  | [], _ => by simp [runsT]
  | [r], h => by have := (h r (by simp)).len; simp [runsT]; omega
  | r :: s :: R, h => by
    have h1 := (h r (by simp)).len
    have h2 := runsT_len (R := s :: R) (fun x hx => h x (List.mem_cons_of_mem _ hx))
    simp only [runsT, List.length_append, List.length_cons, List.length_nil] at h2 ⊢
    omega
theorem take_next (R : List Rn) (k : Nat) (h : k < R.length) : R.take (k + 1) = R.take k ++ [R.getD k rn0] := by
  rw [List.take_succ_eq_append_getElem h]; simp [List.getD, h]
theorem next_zero (R : List Rn) (h : 0 < R.length) : runsT (R.take 1) = rnT (R.getD 0 rn0) := by
  have := take_next R 0 h
  rw [Nat.zero_add, List.take_zero, List.nil_append] at this
  rw [this]
  rfl
theorem next_more (R : List Rn) (k : Nat) (h : k < R.length) (h0 : 0 < k) : runsT (R.take (k + 1)) = runsT (R.take k) ++ [44] ++ rnT (R.getD k rn0) := by
  rw [take_next R k h, runsT_snoc]
  intro e
  have := congrArg List.length e
  rw [List.length_take, List.length_nil] at this
  omega
theorem Ap.below0 {bo : Option Addr} (h : Ap w w' none bo) : Below w.heap.size w w' :=
  ⟨h.grown.os, h.grown.tape, h.grown.output, h.grown.size, fun k hk => h.grown.block k hk (fun e => by cases e)⟩
theorem cell_two_new (w : World) (x y : Value) (T : TypeId) : (w.alloc (.cells #[x, y] T)).cell? ⟨w.heap.size, 0, none⟩ = some x ∧ (w.alloc (.cells #[x, y] T)).cell? ⟨w.heap.size, 1, none⟩ = some y := by
  constructor <;> (rw [World.cell?_alloc_new]; rfl)
theorem BR.app2 {ao : Option Addr} {n cap : Nat} {Z : List Int} (h : BR w ao n cap Z) (x y : Int) (hb : n + 2 ≤ 140737488355328)
    {ops : Array Oper} {rest : List Oper} {o : Oper} {a : Act} {Q : Exit → Act → World → Prop} (hgd : o.guard = none) (s q : Operand) (ho : o.op = .call { callee := .builtin .append, args := #[s, q], argTypes := #[31, 31] })
    (hs : a.eval s = .slice ao n cap) (hy : a.eval q = .slice (some ⟨w.heap.size, 0, none⟩) 2 2)
    (hK : ∀ (bo : Option Addr) (cap2 : Nat) (w2 : World), BR w2 bo (n + 2) cap2 (Z ++ [x, y]) → Ap w w2 ao bo → wpList Tryd.prog ops Q rest (a.put o.dst (.slice bo (n + 2) cap2)) w2) :
    wpList Tryd.prog ops Q (o :: rest) a (w.alloc (.cells #[.int .u8 x, .int .u8 y] 5)) := by
  have hc := cell_two_new w (.int .u8 x) (.int .u8 y) 5
  refine (h.new (.cells #[.int .u8 x, .int .u8 y] 5)).app ⟨w.heap.size, 0, none⟩ 2 2 (Y := [x, y]) rfl (fun t ht => ?_) hb hgd s q ho hs hy fun bo c2 w2 hB hA => hK bo c2 w2 hB ((Ap.new w _ ao).trans hA)
  rcases (show t = 0 ∨ t = 1 by omega) with rfl | rfl
  · rw [Addr.add_lit]; exact hc.1
  · rw [Addr.add_lit]; exact hc.2
set_option maxRecDepth 100000 in
set_option maxHeartbeats 6400000 in
theorem rshow_any (ao : Option Addr) (n c : Nat) (A : List Rn) (w : World) (hS : RSrc w ao n c A) (hn : n ≤ 8589934592) :
    Calls Tryd.prog 5 #[.slice ao n c] w fun e w' => ∃ R, NormOf A R ∧ e = .returned (.string (bs (showT R))) ∧ Below w.heap.size w w' := by
  have HC := hide (refNorm_any ao n c A w hS hn)
  clear hS
  go_enter Tryd.func5, Tryd.ntmps5
  go_wp2_with (go_at_call 9; refine HC.out.mono ?_; rintro e w1 ⟨a1, n1, c1, R, rfl, S1, b1, p1⟩; have HS1 := hide S1; have HB1 := hide b1; have HN := hide p1; have hRl := S1.len; have hRb := form_small (Int.le_refl _) p1.1; clear S1 b1 p1; cases hq : ((n1 : Int) == 0))
  rotate_left
  · have hz : n1 = 0 := by simpa using hq
    have HF : Hid (showT R = noneL) := by show _ = _; unfold showT; rw [if_pos (List.eq_nil_of_length_eq_zero (by omega))]
    go_wp2_with fail
    go_ret
    exact ⟨R, HN.out, by rw [HF.out]; rfl, HB1.out⟩
  · have hz : ¬ n1 = 0 := by simpa using hq
    have HG : Hid (∀ r, r ∈ R → Gd r) := form_gd (Int.le_refl _) HN.out.1
    go_wp2_with fail
    go_loopw [4, 5] (fun s v wr => ∃ (k m cc : Nat) (bo : Option Addr), k ≤ n1 ∧ v = .int .i64 (k : Int) ∧ s = .slice bo m cc ∧ Hid (BR wr bo m cc (nI (runsT (R.take k)))) ∧ Hid (Ap w1 wr none bo)) (fun _ v _ => n1 - (intOf v).toNat)
    case atStart => exact ⟨0, 0, 0, none, by omega, rfl, rfl, BR.nil w1, Ap.refl _ _⟩
    case round =>
      obtain ⟨k, m, cc, bo, hk, rfl, rfl, HR, HA⟩ := hrel
      have hml : m ≤ 45 * n1 := by have h1 := HR.out.len; rw [nI_len] at h1; have h2 := runsT_len (R := R.take k) (fun r hr => HG.out r (List.mem_of_mem_take hr)); rw [List.length_take] at h2; omega
      by_cases hlt : k < n1
      · obtain ⟨ad, rfl, x⟩ := HS1.out.at k hlt
        obtain ⟨pb, po, rfl⟩ := HS1.out.spot (by omega)
        obtain ⟨y, hy⟩ : ∃ y, R.getD k rn0 = y := ⟨_, rfl⟩
        have hgd : Gd y := HG.out y (by rw [← hy]; simp [List.getD, show k < R.length by omega])
        rw [hy] at x
        have HX := hide x
        obtain ⟨lo, hi⟩ := y
        obtain ⟨u, hu⟩ : ∃ u : Nat, lo = (u : Int) := ⟨lo.toNat, by have := hgd.lo; simp only at this; omega⟩
        obtain ⟨v, hv⟩ : ∃ v : Nat, hi = (v : Int) := ⟨hi.toNat, by have h1 := hgd.lo; have h2 := hgd.le; simp only at h1 h2; omega⟩
        subst hu hv
        have hub : u ≤ 1000000000 := by have h1 := hgd.le; have h2 := hgd.hi; simp only at h1 h2; omega
        have hvb : v ≤ 1000000000 := by have h2 := hgd.hi; simp only at h2; omega
        have huv : u ≤ v := by have h1 := hgd.le; simp only at h1; omega
        have hx1 := x.on (Ap.below0 HA.out)
        have c0 := hx1.c0
        have c1 := hx1.c1
        simp only [Addr.add_lit] at c0 c1
        clear x hx1 hgd
        by_cases hk0 : ¬ 0 < k
        · by_cases huv2 : u = v
          · skip
            have HE : Hid (runsT (R.take (k + 1)) = rnT ⟨(u : Int), (v : Int)⟩) := by have e : k = 0 := (by omega); subst e; show _ = _; rw [next_zero R (by omega), hy]
            have HRz : Hid (BR wr bo m cc []) := by have e : k = 0 := (by omega); subst e; exact HR.out
            obtain rfl : u = v := by omega
            have HT : Hid (rnT ⟨(u : Int), (u : Int)⟩ = Lib.decDigits u) := by show _ = _; rw [rnT_one rfl, num_nat]
            clear hy
            go_wp2_with (first | (go_at_call 10; refine (digits_any _ _ _ _ u _ HRz.out (by omega) (by omega)).mono ?_; rintro e w3 ⟨b3, m3, q3, rfl, R3, A3⟩; have HR3 := hide R3; have HA3 := hide (HA.out.trans A3); have x3 := HX.out.on (Ap.below0 HA3.out); have f0 := x3.c0; have f1 := x3.c1; simp only [Addr.add_lit] at f0 f1; have hm3 : m3 ≤ 45 * n1 + 100 := (by have h1 := R3.len; have h2 := HRz.out.len; have h3 : (nI (Lib.decDigits u)).length ≤ 21 := (by rw [nI_len, ← num_nat]; exact num_len _ (by omega) (by omega)); rw [List.length_append] at h1; omega); clear R3 A3 x3))
            refine wp_region_held_drew (S := fun v0 => v0.cell? ⟨pb, po + k * 2, none⟩ = some (.int .i64 (u : Int)) ∧ v0.cell? ⟨pb, po + k * 2 + 1, none⟩ = some (.int .i64 (u : Int))) (by kernel_rfl) (⟨f0, f1⟩) (fun hHeld => ?_)
            refine wpAnyH_take (i := 0) (oi := { dst := some 29, op := Op.move (Operand.tmp 3), type := 22, pos := "ref.go:346", after := #[], guard := none }) (v := ?_) rfl (by kernel_rfl) (by kernel_rfl) (by kernel_rfl) (fun _ _ _ h => h) (Or.inl ⟨by rfl, ?_⟩) (by assumption) ?_
            rotate_left
            · (intro w hSw; (try dsimp only at hSw); go_simp); first | done | with_reducible rfl
            simp only [Act.put, List.setIfInBounds_toArray, List.set_cons_zero, List.set_cons_succ]
            refine wpAnyH_take (i := 1) (oi := { dst := some 30, op := Op.move (Operand.tmp 5), type := 3, pos := "ref.go:346", after := #[], guard := none }) (v := ?_) rfl (by kernel_rfl) (by kernel_rfl) (by kernel_rfl) (fun _ _ _ h => h) (Or.inl ⟨by rfl, ?_⟩) (by assumption) ?_
            rotate_left
            · (intro w hSw; (try dsimp only at hSw); go_simp); first | done | with_reducible rfl
            simp only [Act.put, List.setIfInBounds_toArray, List.set_cons_zero, List.set_cons_succ]
            refine wpAnyH_take (i := 2) (oi := { dst := some 31, op := Op.indexAddr 22 (Operand.tmp 29) (Operand.tmp 30), type := 0, pos := "ref.go:346", after := #[{ on := 0, ground := Ground.data }, { on := 1, ground := Ground.data }], guard := none }) (v := ?_) rfl (by kernel_rfl) (by kernel_rfl) (by kernel_rfl) (fun _ _ _ h => h) (Or.inl ⟨by rfl, ?_⟩) (by assumption) ?_
            rotate_left
            · (intro w hSw; (try dsimp only at hSw); go_simp); first | done | with_reducible rfl
            simp only [Act.put, List.setIfInBounds_toArray, List.set_cons_zero, List.set_cons_succ]
            refine wpAnyH_take (i := 3) (oi := { dst := some 32, op := Op.fieldAddr 25 (Operand.tmp 31) 1, type := 0, pos := "ref.go:346", after := #[{ on := 2, ground := Ground.data }], guard := none }) (v := ?_) rfl (by kernel_rfl) (by kernel_rfl) (by kernel_rfl) (fun _ _ _ h => h) (Or.inl ⟨by rfl, ?_⟩) (by assumption) ?_
            rotate_left
            · (intro w hSw; (try dsimp only at hSw); go_simp); first | done | with_reducible rfl
            simp only [Act.put, List.setIfInBounds_toArray, List.set_cons_zero, List.set_cons_succ]
            refine wpAnyH_take (i := 4) (oi := { dst := some 33, op := Op.load 3 (Operand.tmp 32), type := 3, pos := "ref.go:346", after := #[{ on := 3, ground := Ground.data }], guard := none }) (v := ?_) rfl (by kernel_rfl) (by kernel_rfl) (by kernel_rfl) (fun _ _ _ h => h) (Or.inl ⟨by rfl, ?_⟩) (by assumption) ?_
            rotate_left
            · (intro w hSw; (try dsimp only at hSw); go_simp); first | done | with_reducible rfl
            simp only [Act.put, List.setIfInBounds_toArray, List.set_cons_zero, List.set_cons_succ]
            refine wpAnyH_take (i := 5) (oi := { dst := some 34, op := Op.move (Operand.tmp 3), type := 22, pos := "ref.go:346", after := #[], guard := none }) (v := ?_) rfl (by kernel_rfl) (by kernel_rfl) (by kernel_rfl) (fun _ _ _ h => h) (Or.inl ⟨by rfl, ?_⟩) (by assumption) ?_
            rotate_left
            · (intro w hSw; (try dsimp only at hSw); go_simp); first | done | with_reducible rfl
            simp only [Act.put, List.setIfInBounds_toArray, List.set_cons_zero, List.set_cons_succ]
            refine wpAnyH_take (i := 6) (oi := { dst := some 35, op := Op.move (Operand.tmp 5), type := 3, pos := "ref.go:346", after := #[], guard := none }) (v := ?_) rfl (by kernel_rfl) (by kernel_rfl) (by kernel_rfl) (fun _ _ _ h => h) (Or.inl ⟨by rfl, ?_⟩) (by assumption) ?_
            rotate_left
            · (intro w hSw; (try dsimp only at hSw); go_simp); first | done | with_reducible rfl
            simp only [Act.put, List.setIfInBounds_toArray, List.set_cons_zero, List.set_cons_succ]
            refine wpAnyH_take (i := 7) (oi := { dst := some 36, op := Op.indexAddr 22 (Operand.tmp 34) (Operand.tmp 35), type := 0, pos := "ref.go:346", after := #[{ on := 5, ground := Ground.data }, { on := 6, ground := Ground.data }], guard := none }) (v := ?_) rfl (by kernel_rfl) (by kernel_rfl) (by kernel_rfl) (fun _ _ _ h => h) (Or.inl ⟨by rfl, ?_⟩) (by assumption) ?_
            rotate_left
            · (intro w hSw; (try dsimp only at hSw); go_simp); first | done | with_reducible rfl
            simp only [Act.put, List.setIfInBounds_toArray, List.set_cons_zero, List.set_cons_succ]
            refine wpAnyH_take (i := 8) (oi := { dst := some 37, op := Op.fieldAddr 25 (Operand.tmp 36) 0, type := 0, pos := "ref.go:346", after := #[{ on := 7, ground := Ground.data }], guard := none }) (v := ?_) rfl (by kernel_rfl) (by kernel_rfl) (by kernel_rfl) (fun _ _ _ h => h) (Or.inl ⟨by rfl, ?_⟩) (by assumption) ?_
            rotate_left
            · (intro w hSw; (try dsimp only at hSw); go_simp); first | done | with_reducible rfl
            simp only [Act.put, List.setIfInBounds_toArray, List.set_cons_zero, List.set_cons_succ]
            refine wpAnyH_take (i := 9) (oi := { dst := some 38, op := Op.load 3 (Operand.tmp 37), type := 3, pos := "ref.go:346", after := #[{ on := 8, ground := Ground.data }], guard := none }) (v := ?_) rfl (by kernel_rfl) (by kernel_rfl) (by kernel_rfl) (fun _ _ _ h => h) (Or.inl ⟨by rfl, ?_⟩) (by assumption) ?_
            rotate_left
            · (intro w hSw; (try dsimp only at hSw); go_simp); first | done | with_reducible rfl
            simp only [Act.put, List.setIfInBounds_toArray, List.set_cons_zero, List.set_cons_succ]
            refine wpAnyH_take (i := 10) (oi := { dst := some 39, op := Op.binOp BinOp.gtr 3 (Operand.tmp 33) (Operand.tmp 38) 3, type := 4, pos := "ref.go:346", after := #[{ on := 4, ground := Ground.data }, { on := 9, ground := Ground.data }], guard := none }) (v := ?_) rfl (by kernel_rfl) (by kernel_rfl) (by kernel_rfl) (fun _ _ _ h => h) (Or.inl ⟨by rfl, ?_⟩) (by assumption) ?_
            rotate_left
            · (intro w hSw; (try dsimp only at hSw); go_simp); first | done | with_reducible rfl
            simp only [Act.put, List.setIfInBounds_toArray, List.set_cons_zero, List.set_cons_succ]
            refine wpAnyH_done (by kernel_rfl) ?_ _
            clear hHeld
            go_wp2_with fail
            go_roundw
            case rel => exact ⟨k + 1, m3, q3, b3, by omega, by go_num, rfl, by show BR _ _ _ _ _; rw [HE.out, HT.out]; have := HR3.out.keep (w' := w3.drew) (fun _ _ => rfl); simpa [nI, List.append_assoc] using this, HA3.out.trans ⟨⟨rfl, rfl, rfl, Nat.le_refl _, fun _ _ _ => rfl⟩, Or.inl rfl⟩⟩
            case measure => simp [intOf]; omega
          · skip
            have HE : Hid (runsT (R.take (k + 1)) = rnT ⟨(u : Int), (v : Int)⟩) := by have e : k = 0 := (by omega); subst e; show _ = _; rw [next_zero R (by omega), hy]
            have HRz : Hid (BR wr bo m cc []) := by have e : k = 0 := (by omega); subst e; exact HR.out
            have HT : Hid (rnT ⟨(u : Int), (v : Int)⟩ = Lib.decDigits u ++ [46, 46] ++ Lib.decDigits v) := by show _ = _; rw [rnT_two (by simp only; omega), num_nat, num_nat]
            clear hy
            go_wp2_with (first | (go_at_call 10; refine (digits_any _ _ _ _ u _ HRz.out (by omega) (by omega)).mono ?_; rintro e w3 ⟨b3, m3, q3, rfl, R3, A3⟩; have HR3 := hide R3; have HA3 := hide (HA.out.trans A3); have x3 := HX.out.on (Ap.below0 HA3.out); have f0 := x3.c0; have f1 := x3.c1; simp only [Addr.add_lit] at f0 f1; have hm3 : m3 ≤ 45 * n1 + 100 := (by have h1 := R3.len; have h2 := HRz.out.len; have h3 : (nI (Lib.decDigits u)).length ≤ 21 := (by rw [nI_len, ← num_nat]; exact num_len _ (by omega) (by omega)); rw [List.length_append] at h1; omega); clear R3 A3 x3))
            refine wp_region_held_drew (S := fun v0 => v0.cell? ⟨pb, po + k * 2, none⟩ = some (.int .i64 (u : Int)) ∧ v0.cell? ⟨pb, po + k * 2 + 1, none⟩ = some (.int .i64 (v : Int))) (by kernel_rfl) (⟨f0, f1⟩) (fun hHeld => ?_)
            refine wpAnyH_take (i := 0) (oi := { dst := some 29, op := Op.move (Operand.tmp 3), type := 22, pos := "ref.go:346", after := #[], guard := none }) (v := ?_) rfl (by kernel_rfl) (by kernel_rfl) (by kernel_rfl) (fun _ _ _ h => h) (Or.inl ⟨by rfl, ?_⟩) (by assumption) ?_
            rotate_left
            · (intro w hSw; (try dsimp only at hSw); go_simp); first | done | with_reducible rfl
            simp only [Act.put, List.setIfInBounds_toArray, List.set_cons_zero, List.set_cons_succ]
            refine wpAnyH_take (i := 1) (oi := { dst := some 30, op := Op.move (Operand.tmp 5), type := 3, pos := "ref.go:346", after := #[], guard := none }) (v := ?_) rfl (by kernel_rfl) (by kernel_rfl) (by kernel_rfl) (fun _ _ _ h => h) (Or.inl ⟨by rfl, ?_⟩) (by assumption) ?_
            rotate_left
            · (intro w hSw; (try dsimp only at hSw); go_simp); first | done | with_reducible rfl
            simp only [Act.put, List.setIfInBounds_toArray, List.set_cons_zero, List.set_cons_succ]
            refine wpAnyH_take (i := 2) (oi := { dst := some 31, op := Op.indexAddr 22 (Operand.tmp 29) (Operand.tmp 30), type := 0, pos := "ref.go:346", after := #[{ on := 0, ground := Ground.data }, { on := 1, ground := Ground.data }], guard := none }) (v := ?_) rfl (by kernel_rfl) (by kernel_rfl) (by kernel_rfl) (fun _ _ _ h => h) (Or.inl ⟨by rfl, ?_⟩) (by assumption) ?_
            rotate_left
            · (intro w hSw; (try dsimp only at hSw); go_simp); first | done | with_reducible rfl
            simp only [Act.put, List.setIfInBounds_toArray, List.set_cons_zero, List.set_cons_succ]
            refine wpAnyH_take (i := 3) (oi := { dst := some 32, op := Op.fieldAddr 25 (Operand.tmp 31) 1, type := 0, pos := "ref.go:346", after := #[{ on := 2, ground := Ground.data }], guard := none }) (v := ?_) rfl (by kernel_rfl) (by kernel_rfl) (by kernel_rfl) (fun _ _ _ h => h) (Or.inl ⟨by rfl, ?_⟩) (by assumption) ?_
            rotate_left
            · (intro w hSw; (try dsimp only at hSw); go_simp); first | done | with_reducible rfl
            simp only [Act.put, List.setIfInBounds_toArray, List.set_cons_zero, List.set_cons_succ]
            refine wpAnyH_take (i := 4) (oi := { dst := some 33, op := Op.load 3 (Operand.tmp 32), type := 3, pos := "ref.go:346", after := #[{ on := 3, ground := Ground.data }], guard := none }) (v := ?_) rfl (by kernel_rfl) (by kernel_rfl) (by kernel_rfl) (fun _ _ _ h => h) (Or.inl ⟨by rfl, ?_⟩) (by assumption) ?_
            rotate_left
            · (intro w hSw; (try dsimp only at hSw); go_simp); first | done | with_reducible rfl
            simp only [Act.put, List.setIfInBounds_toArray, List.set_cons_zero, List.set_cons_succ]
            refine wpAnyH_take (i := 5) (oi := { dst := some 34, op := Op.move (Operand.tmp 3), type := 22, pos := "ref.go:346", after := #[], guard := none }) (v := ?_) rfl (by kernel_rfl) (by kernel_rfl) (by kernel_rfl) (fun _ _ _ h => h) (Or.inl ⟨by rfl, ?_⟩) (by assumption) ?_
            rotate_left
            · (intro w hSw; (try dsimp only at hSw); go_simp); first | done | with_reducible rfl
            simp only [Act.put, List.setIfInBounds_toArray, List.set_cons_zero, List.set_cons_succ]
            refine wpAnyH_take (i := 6) (oi := { dst := some 35, op := Op.move (Operand.tmp 5), type := 3, pos := "ref.go:346", after := #[], guard := none }) (v := ?_) rfl (by kernel_rfl) (by kernel_rfl) (by kernel_rfl) (fun _ _ _ h => h) (Or.inl ⟨by rfl, ?_⟩) (by assumption) ?_
            rotate_left
            · (intro w hSw; (try dsimp only at hSw); go_simp); first | done | with_reducible rfl
            simp only [Act.put, List.setIfInBounds_toArray, List.set_cons_zero, List.set_cons_succ]
            refine wpAnyH_take (i := 7) (oi := { dst := some 36, op := Op.indexAddr 22 (Operand.tmp 34) (Operand.tmp 35), type := 0, pos := "ref.go:346", after := #[{ on := 5, ground := Ground.data }, { on := 6, ground := Ground.data }], guard := none }) (v := ?_) rfl (by kernel_rfl) (by kernel_rfl) (by kernel_rfl) (fun _ _ _ h => h) (Or.inl ⟨by rfl, ?_⟩) (by assumption) ?_
            rotate_left
            · (intro w hSw; (try dsimp only at hSw); go_simp); first | done | with_reducible rfl
            simp only [Act.put, List.setIfInBounds_toArray, List.set_cons_zero, List.set_cons_succ]
            refine wpAnyH_take (i := 8) (oi := { dst := some 37, op := Op.fieldAddr 25 (Operand.tmp 36) 0, type := 0, pos := "ref.go:346", after := #[{ on := 7, ground := Ground.data }], guard := none }) (v := ?_) rfl (by kernel_rfl) (by kernel_rfl) (by kernel_rfl) (fun _ _ _ h => h) (Or.inl ⟨by rfl, ?_⟩) (by assumption) ?_
            rotate_left
            · (intro w hSw; (try dsimp only at hSw); go_simp); first | done | with_reducible rfl
            simp only [Act.put, List.setIfInBounds_toArray, List.set_cons_zero, List.set_cons_succ]
            refine wpAnyH_take (i := 9) (oi := { dst := some 38, op := Op.load 3 (Operand.tmp 37), type := 3, pos := "ref.go:346", after := #[{ on := 8, ground := Ground.data }], guard := none }) (v := ?_) rfl (by kernel_rfl) (by kernel_rfl) (by kernel_rfl) (fun _ _ _ h => h) (Or.inl ⟨by rfl, ?_⟩) (by assumption) ?_
            rotate_left
            · (intro w hSw; (try dsimp only at hSw); go_simp); first | done | with_reducible rfl
            simp only [Act.put, List.setIfInBounds_toArray, List.set_cons_zero, List.set_cons_succ]
            refine wpAnyH_take (i := 10) (oi := { dst := some 39, op := Op.binOp BinOp.gtr 3 (Operand.tmp 33) (Operand.tmp 38) 3, type := 4, pos := "ref.go:346", after := #[{ on := 4, ground := Ground.data }, { on := 9, ground := Ground.data }], guard := none }) (v := ?_) rfl (by kernel_rfl) (by kernel_rfl) (by kernel_rfl) (fun _ _ _ h => h) (Or.inl ⟨by rfl, ?_⟩) (by assumption) ?_
            rotate_left
            · (intro w hSw; (try dsimp only at hSw); go_simp); first | done | with_reducible rfl
            simp only [Act.put, List.setIfInBounds_toArray, List.set_cons_zero, List.set_cons_succ]
            refine wpAnyH_done (by kernel_rfl) ?_ _
            clear hHeld
            have HR3d := hide (HR3.out.keep (w' := w3.drew) (fun _ _ => rfl))
            have HA3d : Hid (Ap w1 w3.drew none b3) := HA3.out.trans ⟨⟨rfl, rfl, rfl, Nat.le_refl _, fun _ _ _ => rfl⟩, Or.inl rfl⟩
            generalize w3.drew = wd at HR3d HA3d ⊢
            go_wp2_with (first | (go_at_call 10; refine (digits_any _ _ _ _ v _ HR4.out (by omega) (by omega)).mono ?_; rintro e w5 ⟨b5, m5, q5, rfl, R5, A5⟩; have HR5 := hide R5; have HA5 := hide (HA4.out.trans A5); clear R5 A5) | (at_builtin; refine BR.app2 HR3d.out 46 46 (by omega) rfl (.tmp 40) (.tmp 41) rfl rfl rfl ?_; intro b4 q4 w4 R4 A4; have HR4 := hide R4; have HA4 := hide (HA3d.out.trans A4); have x4 := HX.out.on (Ap.below0 HA4.out); have g0 := x4.c0; have g1 := x4.c1; simp only [Addr.add_lit] at g0 g1; clear R4 A4 x4))
            go_roundw
            case rel => exact ⟨k + 1, m5, q5, b5, by omega, by go_num, rfl, by show BR _ _ _ _ _; rw [HE.out, HT.out]; simpa [nI, List.append_assoc] using HR5.out, HA5⟩
            case measure => simp [intOf]; omega
        · by_cases huv2 : u = v
          · skip
            have HE : Hid (runsT (R.take (k + 1)) = runsT (R.take k) ++ [44] ++ rnT ⟨(u : Int), (v : Int)⟩) := by show _ = _; rw [next_more R k (by omega) (by omega), hy]
            obtain rfl : u = v := by omega
            have HT : Hid (rnT ⟨(u : Int), (u : Int)⟩ = Lib.decDigits u) := by show _ = _; rw [rnT_one rfl, num_nat]
            clear hy
            go_wp2_with (first | (go_at_call 10; refine (digits_any _ _ _ _ u _ HR1.out (by omega) (by omega)).mono ?_; rintro e w3 ⟨b3, m3, q3, rfl, R3, A3⟩; have HR3 := hide R3; have HA3 := hide (HA1.out.trans A3); have x3 := HX.out.on (Ap.below0 HA3.out); have f0 := x3.c0; have f1 := x3.c1; simp only [Addr.add_lit] at f0 f1; have hm3 : m3 ≤ 45 * n1 + 100 := (by have h1 := R3.len; have h2 := HR1.out.len; have h3 : (nI (Lib.decDigits u)).length ≤ 21 := (by rw [nI_len, ← num_nat]; exact num_len _ (by omega) (by omega)); rw [List.length_append] at h1; omega); clear R3 A3 x3) | (at_builtin; refine HR.out.app1 44 (by omega) rfl (.tmp 19) (.tmp 20) rfl rfl rfl ?_; intro b1 q1 w2 R2 A2; have HR1 := hide R2; have HA1 := hide (HA.out.trans A2); have x2 := HX.out.on (Ap.below0 HA1.out); have e0 := x2.c0; have e1 := x2.c1; simp only [Addr.add_lit] at e0 e1; clear R2 A2 x2))
            refine wp_region_held_drew (S := fun v0 => v0.cell? ⟨pb, po + k * 2, none⟩ = some (.int .i64 (u : Int)) ∧ v0.cell? ⟨pb, po + k * 2 + 1, none⟩ = some (.int .i64 (u : Int))) (by kernel_rfl) (⟨f0, f1⟩) (fun hHeld => ?_)
            refine wpAnyH_take (i := 0) (oi := { dst := some 29, op := Op.move (Operand.tmp 3), type := 22, pos := "ref.go:346", after := #[], guard := none }) (v := ?_) rfl (by kernel_rfl) (by kernel_rfl) (by kernel_rfl) (fun _ _ _ h => h) (Or.inl ⟨by rfl, ?_⟩) (by assumption) ?_
            rotate_left
            · (intro w hSw; (try dsimp only at hSw); go_simp); first | done | with_reducible rfl
            simp only [Act.put, List.setIfInBounds_toArray, List.set_cons_zero, List.set_cons_succ]
            refine wpAnyH_take (i := 1) (oi := { dst := some 30, op := Op.move (Operand.tmp 5), type := 3, pos := "ref.go:346", after := #[], guard := none }) (v := ?_) rfl (by kernel_rfl) (by kernel_rfl) (by kernel_rfl) (fun _ _ _ h => h) (Or.inl ⟨by rfl, ?_⟩) (by assumption) ?_
            rotate_left
            · (intro w hSw; (try dsimp only at hSw); go_simp); first | done | with_reducible rfl
            simp only [Act.put, List.setIfInBounds_toArray, List.set_cons_zero, List.set_cons_succ]
            refine wpAnyH_take (i := 2) (oi := { dst := some 31, op := Op.indexAddr 22 (Operand.tmp 29) (Operand.tmp 30), type := 0, pos := "ref.go:346", after := #[{ on := 0, ground := Ground.data }, { on := 1, ground := Ground.data }], guard := none }) (v := ?_) rfl (by kernel_rfl) (by kernel_rfl) (by kernel_rfl) (fun _ _ _ h => h) (Or.inl ⟨by rfl, ?_⟩) (by assumption) ?_
            rotate_left
            · (intro w hSw; (try dsimp only at hSw); go_simp); first | done | with_reducible rfl
            simp only [Act.put, List.setIfInBounds_toArray, List.set_cons_zero, List.set_cons_succ]
            refine wpAnyH_take (i := 3) (oi := { dst := some 32, op := Op.fieldAddr 25 (Operand.tmp 31) 1, type := 0, pos := "ref.go:346", after := #[{ on := 2, ground := Ground.data }], guard := none }) (v := ?_) rfl (by kernel_rfl) (by kernel_rfl) (by kernel_rfl) (fun _ _ _ h => h) (Or.inl ⟨by rfl, ?_⟩) (by assumption) ?_
            rotate_left
            · (intro w hSw; (try dsimp only at hSw); go_simp); first | done | with_reducible rfl
            simp only [Act.put, List.setIfInBounds_toArray, List.set_cons_zero, List.set_cons_succ]
            refine wpAnyH_take (i := 4) (oi := { dst := some 33, op := Op.load 3 (Operand.tmp 32), type := 3, pos := "ref.go:346", after := #[{ on := 3, ground := Ground.data }], guard := none }) (v := ?_) rfl (by kernel_rfl) (by kernel_rfl) (by kernel_rfl) (fun _ _ _ h => h) (Or.inl ⟨by rfl, ?_⟩) (by assumption) ?_
            rotate_left
            · (intro w hSw; (try dsimp only at hSw); go_simp); first | done | with_reducible rfl
            simp only [Act.put, List.setIfInBounds_toArray, List.set_cons_zero, List.set_cons_succ]
            refine wpAnyH_take (i := 5) (oi := { dst := some 34, op := Op.move (Operand.tmp 3), type := 22, pos := "ref.go:346", after := #[], guard := none }) (v := ?_) rfl (by kernel_rfl) (by kernel_rfl) (by kernel_rfl) (fun _ _ _ h => h) (Or.inl ⟨by rfl, ?_⟩) (by assumption) ?_
            rotate_left
            · (intro w hSw; (try dsimp only at hSw); go_simp); first | done | with_reducible rfl
            simp only [Act.put, List.setIfInBounds_toArray, List.set_cons_zero, List.set_cons_succ]
            refine wpAnyH_take (i := 6) (oi := { dst := some 35, op := Op.move (Operand.tmp 5), type := 3, pos := "ref.go:346", after := #[], guard := none }) (v := ?_) rfl (by kernel_rfl) (by kernel_rfl) (by kernel_rfl) (fun _ _ _ h => h) (Or.inl ⟨by rfl, ?_⟩) (by assumption) ?_
            rotate_left
            · (intro w hSw; (try dsimp only at hSw); go_simp); first | done | with_reducible rfl
            simp only [Act.put, List.setIfInBounds_toArray, List.set_cons_zero, List.set_cons_succ]
            refine wpAnyH_take (i := 7) (oi := { dst := some 36, op := Op.indexAddr 22 (Operand.tmp 34) (Operand.tmp 35), type := 0, pos := "ref.go:346", after := #[{ on := 5, ground := Ground.data }, { on := 6, ground := Ground.data }], guard := none }) (v := ?_) rfl (by kernel_rfl) (by kernel_rfl) (by kernel_rfl) (fun _ _ _ h => h) (Or.inl ⟨by rfl, ?_⟩) (by assumption) ?_
            rotate_left
            · (intro w hSw; (try dsimp only at hSw); go_simp); first | done | with_reducible rfl
            simp only [Act.put, List.setIfInBounds_toArray, List.set_cons_zero, List.set_cons_succ]
            refine wpAnyH_take (i := 8) (oi := { dst := some 37, op := Op.fieldAddr 25 (Operand.tmp 36) 0, type := 0, pos := "ref.go:346", after := #[{ on := 7, ground := Ground.data }], guard := none }) (v := ?_) rfl (by kernel_rfl) (by kernel_rfl) (by kernel_rfl) (fun _ _ _ h => h) (Or.inl ⟨by rfl, ?_⟩) (by assumption) ?_
            rotate_left
            · (intro w hSw; (try dsimp only at hSw); go_simp); first | done | with_reducible rfl
            simp only [Act.put, List.setIfInBounds_toArray, List.set_cons_zero, List.set_cons_succ]
            refine wpAnyH_take (i := 9) (oi := { dst := some 38, op := Op.load 3 (Operand.tmp 37), type := 3, pos := "ref.go:346", after := #[{ on := 8, ground := Ground.data }], guard := none }) (v := ?_) rfl (by kernel_rfl) (by kernel_rfl) (by kernel_rfl) (fun _ _ _ h => h) (Or.inl ⟨by rfl, ?_⟩) (by assumption) ?_
            rotate_left
            · (intro w hSw; (try dsimp only at hSw); go_simp); first | done | with_reducible rfl
            simp only [Act.put, List.setIfInBounds_toArray, List.set_cons_zero, List.set_cons_succ]
            refine wpAnyH_take (i := 10) (oi := { dst := some 39, op := Op.binOp BinOp.gtr 3 (Operand.tmp 33) (Operand.tmp 38) 3, type := 4, pos := "ref.go:346", after := #[{ on := 4, ground := Ground.data }, { on := 9, ground := Ground.data }], guard := none }) (v := ?_) rfl (by kernel_rfl) (by kernel_rfl) (by kernel_rfl) (fun _ _ _ h => h) (Or.inl ⟨by rfl, ?_⟩) (by assumption) ?_
            rotate_left
            · (intro w hSw; (try dsimp only at hSw); go_simp); first | done | with_reducible rfl
            simp only [Act.put, List.setIfInBounds_toArray, List.set_cons_zero, List.set_cons_succ]
            refine wpAnyH_done (by kernel_rfl) ?_ _
            clear hHeld
            go_wp2_with fail
            go_roundw
            case rel => exact ⟨k + 1, m3, q3, b3, by omega, by go_num, rfl, by show BR _ _ _ _ _; rw [HE.out, HT.out]; have := HR3.out.keep (w' := w3.drew) (fun _ _ => rfl); simpa [nI, List.append_assoc] using this, HA3.out.trans ⟨⟨rfl, rfl, rfl, Nat.le_refl _, fun _ _ _ => rfl⟩, Or.inl rfl⟩⟩
            case measure => simp [intOf]; omega
          · skip
            have HE : Hid (runsT (R.take (k + 1)) = runsT (R.take k) ++ [44] ++ rnT ⟨(u : Int), (v : Int)⟩) := by show _ = _; rw [next_more R k (by omega) (by omega), hy]
            have HT : Hid (rnT ⟨(u : Int), (v : Int)⟩ = Lib.decDigits u ++ [46, 46] ++ Lib.decDigits v) := by show _ = _; rw [rnT_two (by simp only; omega), num_nat, num_nat]
            clear hy
            go_wp2_with (first | (go_at_call 10; refine (digits_any _ _ _ _ u _ HR1.out (by omega) (by omega)).mono ?_; rintro e w3 ⟨b3, m3, q3, rfl, R3, A3⟩; have HR3 := hide R3; have HA3 := hide (HA1.out.trans A3); have x3 := HX.out.on (Ap.below0 HA3.out); have f0 := x3.c0; have f1 := x3.c1; simp only [Addr.add_lit] at f0 f1; have hm3 : m3 ≤ 45 * n1 + 100 := (by have h1 := R3.len; have h2 := HR1.out.len; have h3 : (nI (Lib.decDigits u)).length ≤ 21 := (by rw [nI_len, ← num_nat]; exact num_len _ (by omega) (by omega)); rw [List.length_append] at h1; omega); clear R3 A3 x3) | (at_builtin; refine HR.out.app1 44 (by omega) rfl (.tmp 19) (.tmp 20) rfl rfl rfl ?_; intro b1 q1 w2 R2 A2; have HR1 := hide R2; have HA1 := hide (HA.out.trans A2); have x2 := HX.out.on (Ap.below0 HA1.out); have e0 := x2.c0; have e1 := x2.c1; simp only [Addr.add_lit] at e0 e1; clear R2 A2 x2))
            refine wp_region_held_drew (S := fun v0 => v0.cell? ⟨pb, po + k * 2, none⟩ = some (.int .i64 (u : Int)) ∧ v0.cell? ⟨pb, po + k * 2 + 1, none⟩ = some (.int .i64 (v : Int))) (by kernel_rfl) (⟨f0, f1⟩) (fun hHeld => ?_)
            refine wpAnyH_take (i := 0) (oi := { dst := some 29, op := Op.move (Operand.tmp 3), type := 22, pos := "ref.go:346", after := #[], guard := none }) (v := ?_) rfl (by kernel_rfl) (by kernel_rfl) (by kernel_rfl) (fun _ _ _ h => h) (Or.inl ⟨by rfl, ?_⟩) (by assumption) ?_
            rotate_left
            · (intro w hSw; (try dsimp only at hSw); go_simp); first | done | with_reducible rfl
            simp only [Act.put, List.setIfInBounds_toArray, List.set_cons_zero, List.set_cons_succ]
            refine wpAnyH_take (i := 1) (oi := { dst := some 30, op := Op.move (Operand.tmp 5), type := 3, pos := "ref.go:346", after := #[], guard := none }) (v := ?_) rfl (by kernel_rfl) (by kernel_rfl) (by kernel_rfl) (fun _ _ _ h => h) (Or.inl ⟨by rfl, ?_⟩) (by assumption) ?_
            rotate_left
            · (intro w hSw; (try dsimp only at hSw); go_simp); first | done | with_reducible rfl
            simp only [Act.put, List.setIfInBounds_toArray, List.set_cons_zero, List.set_cons_succ]
            refine wpAnyH_take (i := 2) (oi := { dst := some 31, op := Op.indexAddr 22 (Operand.tmp 29) (Operand.tmp 30), type := 0, pos := "ref.go:346", after := #[{ on := 0, ground := Ground.data }, { on := 1, ground := Ground.data }], guard := none }) (v := ?_) rfl (by kernel_rfl) (by kernel_rfl) (by kernel_rfl) (fun _ _ _ h => h) (Or.inl ⟨by rfl, ?_⟩) (by assumption) ?_
            rotate_left
            · (intro w hSw; (try dsimp only at hSw); go_simp); first | done | with_reducible rfl
            simp only [Act.put, List.setIfInBounds_toArray, List.set_cons_zero, List.set_cons_succ]
            refine wpAnyH_take (i := 3) (oi := { dst := some 32, op := Op.fieldAddr 25 (Operand.tmp 31) 1, type := 0, pos := "ref.go:346", after := #[{ on := 2, ground := Ground.data }], guard := none }) (v := ?_) rfl (by kernel_rfl) (by kernel_rfl) (by kernel_rfl) (fun _ _ _ h => h) (Or.inl ⟨by rfl, ?_⟩) (by assumption) ?_
            rotate_left
            · (intro w hSw; (try dsimp only at hSw); go_simp); first | done | with_reducible rfl
            simp only [Act.put, List.setIfInBounds_toArray, List.set_cons_zero, List.set_cons_succ]
            refine wpAnyH_take (i := 4) (oi := { dst := some 33, op := Op.load 3 (Operand.tmp 32), type := 3, pos := "ref.go:346", after := #[{ on := 3, ground := Ground.data }], guard := none }) (v := ?_) rfl (by kernel_rfl) (by kernel_rfl) (by kernel_rfl) (fun _ _ _ h => h) (Or.inl ⟨by rfl, ?_⟩) (by assumption) ?_
            rotate_left
            · (intro w hSw; (try dsimp only at hSw); go_simp); first | done | with_reducible rfl
            simp only [Act.put, List.setIfInBounds_toArray, List.set_cons_zero, List.set_cons_succ]
            refine wpAnyH_take (i := 5) (oi := { dst := some 34, op := Op.move (Operand.tmp 3), type := 22, pos := "ref.go:346", after := #[], guard := none }) (v := ?_) rfl (by kernel_rfl) (by kernel_rfl) (by kernel_rfl) (fun _ _ _ h => h) (Or.inl ⟨by rfl, ?_⟩) (by assumption) ?_
            rotate_left
            · (intro w hSw; (try dsimp only at hSw); go_simp); first | done | with_reducible rfl
            simp only [Act.put, List.setIfInBounds_toArray, List.set_cons_zero, List.set_cons_succ]
            refine wpAnyH_take (i := 6) (oi := { dst := some 35, op := Op.move (Operand.tmp 5), type := 3, pos := "ref.go:346", after := #[], guard := none }) (v := ?_) rfl (by kernel_rfl) (by kernel_rfl) (by kernel_rfl) (fun _ _ _ h => h) (Or.inl ⟨by rfl, ?_⟩) (by assumption) ?_
            rotate_left
            · (intro w hSw; (try dsimp only at hSw); go_simp); first | done | with_reducible rfl
            simp only [Act.put, List.setIfInBounds_toArray, List.set_cons_zero, List.set_cons_succ]
            refine wpAnyH_take (i := 7) (oi := { dst := some 36, op := Op.indexAddr 22 (Operand.tmp 34) (Operand.tmp 35), type := 0, pos := "ref.go:346", after := #[{ on := 5, ground := Ground.data }, { on := 6, ground := Ground.data }], guard := none }) (v := ?_) rfl (by kernel_rfl) (by kernel_rfl) (by kernel_rfl) (fun _ _ _ h => h) (Or.inl ⟨by rfl, ?_⟩) (by assumption) ?_
            rotate_left
            · (intro w hSw; (try dsimp only at hSw); go_simp); first | done | with_reducible rfl
            simp only [Act.put, List.setIfInBounds_toArray, List.set_cons_zero, List.set_cons_succ]
            refine wpAnyH_take (i := 8) (oi := { dst := some 37, op := Op.fieldAddr 25 (Operand.tmp 36) 0, type := 0, pos := "ref.go:346", after := #[{ on := 7, ground := Ground.data }], guard := none }) (v := ?_) rfl (by kernel_rfl) (by kernel_rfl) (by kernel_rfl) (fun _ _ _ h => h) (Or.inl ⟨by rfl, ?_⟩) (by assumption) ?_
            rotate_left
            · (intro w hSw; (try dsimp only at hSw); go_simp); first | done | with_reducible rfl
            simp only [Act.put, List.setIfInBounds_toArray, List.set_cons_zero, List.set_cons_succ]
            refine wpAnyH_take (i := 9) (oi := { dst := some 38, op := Op.load 3 (Operand.tmp 37), type := 3, pos := "ref.go:346", after := #[{ on := 8, ground := Ground.data }], guard := none }) (v := ?_) rfl (by kernel_rfl) (by kernel_rfl) (by kernel_rfl) (fun _ _ _ h => h) (Or.inl ⟨by rfl, ?_⟩) (by assumption) ?_
            rotate_left
            · (intro w hSw; (try dsimp only at hSw); go_simp); first | done | with_reducible rfl
            simp only [Act.put, List.setIfInBounds_toArray, List.set_cons_zero, List.set_cons_succ]
            refine wpAnyH_take (i := 10) (oi := { dst := some 39, op := Op.binOp BinOp.gtr 3 (Operand.tmp 33) (Operand.tmp 38) 3, type := 4, pos := "ref.go:346", after := #[{ on := 4, ground := Ground.data }, { on := 9, ground := Ground.data }], guard := none }) (v := ?_) rfl (by kernel_rfl) (by kernel_rfl) (by kernel_rfl) (fun _ _ _ h => h) (Or.inl ⟨by rfl, ?_⟩) (by assumption) ?_
            rotate_left
            · (intro w hSw; (try dsimp only at hSw); go_simp); first | done | with_reducible rfl
            simp only [Act.put, List.setIfInBounds_toArray, List.set_cons_zero, List.set_cons_succ]
            refine wpAnyH_done (by kernel_rfl) ?_ _
            clear hHeld
            have HR3d := hide (HR3.out.keep (w' := w3.drew) (fun _ _ => rfl))
            have HA3d : Hid (Ap w1 w3.drew none b3) := HA3.out.trans ⟨⟨rfl, rfl, rfl, Nat.le_refl _, fun _ _ _ => rfl⟩, Or.inl rfl⟩
            generalize w3.drew = wd at HR3d HA3d ⊢
            go_wp2_with (first | (go_at_call 10; refine (digits_any _ _ _ _ v _ HR4.out (by omega) (by omega)).mono ?_; rintro e w5 ⟨b5, m5, q5, rfl, R5, A5⟩; have HR5 := hide R5; have HA5 := hide (HA4.out.trans A5); clear R5 A5) | (at_builtin; refine BR.app2 HR3d.out 46 46 (by omega) rfl (.tmp 40) (.tmp 41) rfl rfl rfl ?_; intro b4 q4 w4 R4 A4; have HR4 := hide R4; have HA4 := hide (HA3d.out.trans A4); have x4 := HX.out.on (Ap.below0 HA4.out); have g0 := x4.c0; have g1 := x4.c1; simp only [Addr.add_lit] at g0 g1; clear R4 A4 x4))
            go_roundw
            case rel => exact ⟨k + 1, m5, q5, b5, by omega, by go_num, rfl, by show BR _ _ _ _ _; rw [HE.out, HT.out]; simpa [nI, List.append_assoc] using HR5.out, HA5⟩
            case measure => simp [intOf]; omega
      · obtain rfl : k = n1 := by omega
        have HF : Hid (showT R = runsT (R.take k)) := by show _ = _; rw [List.take_of_length_le (by omega)]; unfold showT; rw [if_neg (fun e => by rw [e] at hRl; simp at hRl; omega)]
        have hst := BR.str HR.out
        rw [str_nI] at hst
        go_wp2_with fail
        go_ret
        exact ⟨R, HN.out, by rw [HF.out]; rfl, HB1.out.trans ((Ap.below0 HA.out).mono HB1.out.size)⟩
end Go.Proofs.YtpolleieajgheaaDoor
