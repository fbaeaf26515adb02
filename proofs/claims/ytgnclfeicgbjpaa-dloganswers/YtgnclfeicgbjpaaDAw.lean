/- DlogAnswers. -/
import Derived.Test.YtgnclfeicgbjpaaDPx
namespace Go.Proofs.Ytgnclfeicgbjpaa
open Go.RowKit
attribute [local go_sem ↓] ldO_eq stO_eq
theorem dc0 (x : Int) : (DC dp0).setIfInBounds 0 (.int .i64 x) = DC ⟨x, false, 0, 0⟩ := by simp [DC, dp0]
theorem dc2 (k : Int) (b : Bool) (n x y : Int) : (DC ⟨k, b, n, x⟩).setIfInBounds 2 (.int .i64 y) = DC ⟨k, b, y, x⟩ := by simp [DC]
theorem dc3 (k : Int) (b : Bool) (n x y : Int) : (DC ⟨k, b, n, x⟩).setIfInBounds 3 (.int .i64 y) = DC ⟨k, b, n, y⟩ := by simp [DC]
attribute [local go_sem] zero_DC cells_DV dc0 dc2 dc3
variable {w0 w w' w2 : World} {β β' : Nat × Nat → Option Nat} {B i g h g1 h1 g2 h2 N M : Nat}

def One (B : Nat) (w : World) (β : Nat × Nat → Option Nat) (i g h N : Nat) : Prop :=
  ∃ (m nx : Int) (Z : List Int) (al : Option Addr) (cl : Nat) (s : Int) (k : Nat) (A : List Int) (ar : Option Addr) (cr : Nat), Pw B w β i g h m nx Z al cl s k A ar cr ∧ A.length ≤ N
theorem One.below (o : One B w β i g h N) (hb : Below w.heap.size w w') : One B w' β i g h N := by
  obtain ⟨m, nx, Z, al, cl, s, k, A, ar, cr, p, l⟩ := o
  exact ⟨m, nx, Z, al, cl, s, k, A, ar, cr, p.below hb, l⟩
theorem One.up (o : One B w β i g h N) (hM : N ≤ M) : One B w β i g h M := by
  obtain ⟨m, nx, Z, al, cl, s, k, A, ar, cr, p, l⟩ := o
  exact ⟨m, nx, Z, al, cl, s, k, A, ar, cr, p, Nat.le_trans l hM⟩
theorem One.keep (o : One B w β i g h N) (hk : ∀ x, x.1 = i → β' x = β x ∧ ∀ j, β x = some j → w'.heap[j]? = w.heap[j]?) : One B w' β' i g h N := by
  obtain ⟨m, nx, Z, al, cl, s, k, A, ar, cr, p, l⟩ := o
  exact ⟨m, nx, Z, al, cl, s, k, A, ar, cr, p.keep hk, l⟩
/-- two logs, each with its reference -/
structure Duo (w0 w : World) (β : Nat × Nat → Option Nat) (g1 h1 g2 h2 N : Nat) : Prop where
  rg : Reg w β
  a : One w0.heap.size w β 1 g1 h1 N
  b : One w0.heap.size w β 2 g2 h2 N
  bel : Below w0.heap.size w0 w
theorem Duo.below (h : Duo w0 w β g1 h1 g2 h2 N) (hb : Below w.heap.size w w') : Duo w0 w' β g1 h1 g2 h2 N := ⟨h.rg.below hb, h.a.below hb, h.b.below hb, below_on' h.bel hb⟩
def Bx (w w' : World) (β β' : Nat × Nat → Option Nat) : Prop := β' (3, 0) = β (3, 0) ∧ ∀ j, β (3, 0) = some j → w'.heap[j]? = w.heap[j]?
theorem Duo.play1 (h : Duo w0 w β g1 h1 g2 h2 N) (hN : N < 4399000000000) (r : Dp) : Calls Try.prog 8 #[ptr g1, ptr h1, DV r] w fun e w' => e = .returned (.bool true) ∧ ∃ β', Duo w0 w' β' g1 h1 g2 h2 (N + 1) ∧ Bx w w' β β' := by
  obtain ⟨m, nx, Z, al, cl, s, k, A, ar, cr, p, l⟩ := h.a
  refine (plays_any w h.rg p N l hN h.bel.size r.kind r.second r.n r.x).mono ?_
  rintro e w' ⟨rfl, β', m', nx', Z', al', cl', s', k', A', ar', cr', r', p', l', kk, b'⟩
  exact ⟨rfl, β', ⟨r', ⟨m', nx', Z', al', cl', s', k', A', ar', cr', p', l'⟩, (h.b.keep (fun x hx => kk x (by omega))).up (Nat.le_succ _), h.bel.trans b'⟩, (kk (3, 0) (by decide)).1, (kk (3, 0) (by decide)).2⟩
theorem Duo.play2 (h : Duo w0 w β g1 h1 g2 h2 N) (hN : N < 4399000000000) (r : Dp) : Calls Try.prog 8 #[ptr g2, ptr h2, DV r] w fun e w' => e = .returned (.bool true) ∧ ∃ β', Duo w0 w' β' g1 h1 g2 h2 (N + 1) ∧ Bx w w' β β' := by
  obtain ⟨m, nx, Z, al, cl, s, k, A, ar, cr, p, l⟩ := h.b
  refine (plays_any w h.rg p N l hN h.bel.size r.kind r.second r.n r.x).mono ?_
  rintro e w' ⟨rfl, β', m', nx', Z', al', cl', s', k', A', ar', cr', r', p', l', kk, b'⟩
  exact ⟨rfl, β', ⟨r', (h.a.keep (fun x hx => kk x (by omega))).up (Nat.le_succ _), ⟨m', nx', Z', al', cl', s', k', A', ar', cr', p', l'⟩, h.bel.trans b'⟩, (kk (3, 0) (by decide)).1, (kk (3, 0) (by decide)).2⟩
theorem Reg.none (w : World) : Reg w (fun _ => none) := ⟨fun _ _ e => (nomatch e), fun _ _ _ e => (nomatch e)⟩
theorem One.zero {x y : Int} (L : Lg B w g (btw x 0 64) (btw y 0 4611686018427387904) [] none 0) (R : Rf B w h (btw x 0 64) (btw y 0 4611686018427387904) (0 : Nat) [] none 0) (n0 : β (i, 0) = some g) (n1 : β (i, 1) = none) (n2 : β (i, 2) = some h) (n3 : β (i, 3) = none) : One B w β i g h 0 := by
  have h1 : 0 ≤ btw x 0 64 ∧ btw x 0 64 ≤ 64 := by unfold btw; omega
  have h2 : 0 ≤ btw y 0 4611686018427387904 ∧ btw y 0 4611686018427387904 ≤ 4611686018427387904 := by unfold btw; omega
  exact ⟨_, _, [], none, 0, _, 0, [], none, 0, ⟨L, R, ⟨⟨h1.1, h1.2, h2.1, by omega, by simp⟩, ⟨h1.1, h1.2, h2.1, h2.2, Int.le_refl _, by simp, by simp⟩, by simp, rfl⟩, by simp, n0, n1, n2, n3⟩, Nat.le_refl _⟩
def β0 (g1 h1 g2 h2 : Nat) : Nat × Nat → Option Nat := upd (upd (upd (upd (fun _ => none) (1, 0) (some g1)) (1, 2) (some h1)) (2, 0) (some g2)) (2, 2) (some h2)
theorem Duo.begin {a b c d : Int} (L1 : Lg w0.heap.size w g1 (btw a 0 64) (btw b 0 4611686018427387904) [] none 0) (R1 : Rf w0.heap.size w h1 (btw a 0 64) (btw b 0 4611686018427387904) (0 : Nat) [] none 0) (L2 : Lg w0.heap.size w g2 (btw c 0 64) (btw d 0 4611686018427387904) [] none 0) (R2 : Rf w0.heap.size w h2 (btw c 0 64) (btw d 0 4611686018427387904) (0 : Nat) [] none 0) (hb : Below w0.heap.size w0 w) (e1 : g1 < g2) (e2 : g2 < h1) (e3 : h1 < h2) : Duo w0 w (β0 g1 h1 g2 h2) g1 h1 g2 h2 0 := by
  have l1 := L1.lt
  have l2 := L2.lt
  have l3 := R1.lt
  have l4 := R2.lt
  have u : ∀ (β : Nat × Nat → Option Nat) x v y k, upd β x v y = some k → v = some k ∨ β y = some k := fun β x v y k e => by
    unfold upd at e
    split at e
    · exact .inl e
    · exact .inr e
  have sj : ∀ {p q : Nat}, some p = some q → p = q := fun e => Option.some.inj e
  refine ⟨?_, One.zero L1 R1 (by simp [β0, upd]) (by simp [β0, upd]) (by simp [β0, upd]) (by simp [β0, upd]), One.zero L2 R2 (by simp [β0, upd]) (by simp [β0, upd]) (by simp [β0, upd]) (by simp [β0, upd]), hb⟩
  refine ((((Reg.none w).put (1, 0) (some g1) (fun k e => by have := sj e; omega) (fun k e y hy f => by cases f)).put (1, 2) (some h1) (fun k e => by have := sj e; omega) (fun k e y hy f => ?_)).put (2, 0) (some g2) (fun k e => by have := sj e; omega) (fun k e y hy f => ?_)).put (2, 2) (some h2) (fun k e => by have := sj e; omega) (fun k e y hy f => ?_)
  · have := sj e
    rcases u _ _ _ _ _ f with f | f
    · have := sj f; omega
    · cases f
  · have := sj e
    rcases u _ _ _ _ _ f with f | f
    · have := sj f; omega
    · rcases u _ _ _ _ _ f with f | f
      · have := sj f; omega
      · cases f
  · have := sj e
    rcases u _ _ _ _ _ f with f | f
    · have := sj f; omega
    · rcases u _ _ _ _ _ f with f | f
      · have := sj f; omega
      · rcases u _ _ _ _ _ f with f | f
        · have := sj f; omega
        · cases f
/-- a box laid beside them -/
theorem Duo.box (h : Duo w0 w β g1 h1 g2 h2 N) (hb : Below w.heap.size w w') (hs : w.heap.size < w'.heap.size) : Duo w0 w' (upd β (3, 0) (some w.heap.size)) g1 h1 g2 h2 N := by
  have h' := h.below hb
  refine ⟨h'.rg.put (3, 0) _ (fun k e => by have := Option.some.inj e; omega) (fun k e y hy f => by have := Option.some.inj e; have := h.rg.lt y k f; omega), h'.a.keep (fun x hx => ⟨upd_ne (fun e => by rw [e] at hx; cases hx), fun _ _ => rfl⟩), h'.b.keep (fun x hx => ⟨upd_ne (fun e => by rw [e] at hx; cases hx), fun _ _ => rfl⟩), h'.bel⟩
theorem Bx.box {q : Nat} {r : Dp} (h : Bx w w' β β') (hq : β (3, 0) = some q) (X : DBox w q r) : DBox w' q r ∧ β' (3, 0) = some q := ⟨(h.2 q hq).trans X, h.1.trans hq⟩
set_option maxRecDepth 100000 in
set_option maxHeartbeats 4000000 in
theorem answers_any (a b c d : Int) (so : Option Addr) (n sc : Nat) (S : List Dp) (w : World) (hS : DSrc w so n sc S) (hn : n ≤ 4398046511104) :
    Calls Try.prog 3 #[.agg #[.int .i64 a, .int .i64 b, .int .i64 c, .int .i64 d, .slice so n sc]] w fun e w' => e = .returned (.bool true) ∧ Below w.heap.size w w' := by
  obtain ⟨w1, hw1⟩ : ∃ w1, w.alloc (.cells #[.int .i64 a, .int .i64 b, .int .i64 c, .int .i64 d, .slice so n sc] 24) = w1 := ⟨_, rfl⟩
  have HX : Hid (w1.heap[w.heap.size]? = some (.cells #[.int .i64 a, .int .i64 b, .int .i64 c, .int .i64 d, .slice so n sc] 24 (0, 0))) := by show _ = _; rw [← hw1, heap_alloc_new]
  have HB1 : Hid (Below w.heap.size w w1) := by rw [← hw1]; exact below_new _ _
  have HZ1 : Hid (w1.heap.size = w.heap.size + 1) := by show _ = _; rw [← hw1]; simp
  have HS := hide (hS.below HB1.out)
  have HCX : Hid (∀ W, Below w1.heap.size w1 W → (W.cell? ⟨w.heap.size, 0, none⟩ = some (.int .i64 a) ∧ W.cell? ⟨w.heap.size, 1, none⟩ = some (.int .i64 b) ∧ W.cell? ⟨w.heap.size, 2, none⟩ = some (.int .i64 c) ∧ W.cell? ⟨w.heap.size, 3, none⟩ = some (.int .i64 d)) ∧ W.cell? ⟨w.heap.size, 4, none⟩ = some (.slice so n sc)) := by
    intro W hb
    have h := (hb.block w.heap.size (by have := HZ1.out; omega)).trans HX.out
    exact ⟨⟨by simp [World.cell?, h], by simp [World.cell?, h], by simp [World.cell?, h], by simp [World.cell?, h]⟩, by simp [World.cell?, h]⟩
  clear hS HX
  go_enter Try.func3, Try.ntmps3
  go_wp2_with fail
  clear hw1
  refine (fixed_any w1).mono ?_
  rintro e w2 ⟨rfl, b2⟩
  have HB2 := hide b2
  clear b2
  go_wp2_with fail
  refine wp_region_held_drew (S := fun W => W.cell? ⟨w.heap.size, 0, none⟩ = some (.int .i64 a) ∧ W.cell? ⟨w.heap.size, 1, none⟩ = some (.int .i64 b) ∧ W.cell? ⟨w.heap.size, 2, none⟩ = some (.int .i64 c) ∧ W.cell? ⟨w.heap.size, 3, none⟩ = some (.int .i64 d)) (by kernel_rfl) ((HCX.out _ (below_on' HB2.out (below_drew1 w2))).1) (fun hHeld => ?_)
  have HBd := hide (below_on' HB2.out (below_drew1 w2))
  generalize w2.drew = wd at HBd hHeld ⊢
  refine wpAnyH_take (i := 0) (oi := { dst := some 13, op := Op.fieldAddr 24 (Operand.tmp 1) 0, type := 0, pos := "law.go:120", after := #[], guard := none }) (v := ?_) rfl (by kernel_rfl) (by kernel_rfl) (by kernel_rfl) (fun _ _ _ h => h) (Or.inl ⟨by rfl, ?_⟩) (by assumption) ?_
  rotate_left
  · (intro w hSw; (try dsimp only at hSw); go_simp); first | done | with_reducible rfl
  simp only [Act.put, List.setIfInBounds_toArray, List.set_cons_zero, List.set_cons_succ]
  refine wpAnyH_take (i := 1) (oi := { dst := some 14, op := Op.load 3 (Operand.tmp 13), type := 3, pos := "law.go:120", after := #[{ on := 0, ground := Ground.data }], guard := none }) (v := ?_) rfl (by kernel_rfl) (by kernel_rfl) (by kernel_rfl) (fun _ _ _ h => h) (Or.inl ⟨by rfl, ?_⟩) (by assumption) ?_
  rotate_left
  · (intro w hSw; (try dsimp only at hSw); obtain ⟨hc0, hc1, hc2, hc3⟩ := hSw; go_simp); first | done | with_reducible rfl
  simp only [Act.put, List.setIfInBounds_toArray, List.set_cons_zero, List.set_cons_succ]
  refine wpAnyH_take (i := 2) (oi := { dst := some 15, op := Op.fieldAddr 24 (Operand.tmp 1) 1, type := 0, pos := "law.go:120", after := #[], guard := none }) (v := ?_) rfl (by kernel_rfl) (by kernel_rfl) (by kernel_rfl) (fun _ _ _ h => h) (Or.inl ⟨by rfl, ?_⟩) (by assumption) ?_
  rotate_left
  · (intro w hSw; (try dsimp only at hSw); go_simp); first | done | with_reducible rfl
  simp only [Act.put, List.setIfInBounds_toArray, List.set_cons_zero, List.set_cons_succ]
  refine wpAnyH_take (i := 3) (oi := { dst := some 16, op := Op.load 3 (Operand.tmp 15), type := 3, pos := "law.go:120", after := #[{ on := 2, ground := Ground.data }], guard := none }) (v := ?_) rfl (by kernel_rfl) (by kernel_rfl) (by kernel_rfl) (fun _ _ _ h => h) (Or.inl ⟨by rfl, ?_⟩) (by assumption) ?_
  rotate_left
  · (intro w hSw; (try dsimp only at hSw); obtain ⟨hc0, hc1, hc2, hc3⟩ := hSw; go_simp); first | done | with_reducible rfl
  simp only [Act.put, List.setIfInBounds_toArray, List.set_cons_zero, List.set_cons_succ]
  refine wpAnyH_take (i := 5) (oi := { dst := some 18, op := Op.fieldAddr 24 (Operand.tmp 1) 2, type := 0, pos := "law.go:120", after := #[], guard := none }) (v := ?_) rfl (by kernel_rfl) (by kernel_rfl) (by kernel_rfl) (fun _ _ _ h => h) (Or.inl ⟨by rfl, ?_⟩) (by assumption) ?_
  rotate_left
  · (intro w hSw; (try dsimp only at hSw); go_simp); first | done | with_reducible rfl
  simp only [Act.put, List.setIfInBounds_toArray, List.set_cons_zero, List.set_cons_succ]
  refine wpAnyH_take (i := 6) (oi := { dst := some 19, op := Op.load 3 (Operand.tmp 18), type := 3, pos := "law.go:120", after := #[{ on := 5, ground := Ground.data }], guard := none }) (v := ?_) rfl (by kernel_rfl) (by kernel_rfl) (by kernel_rfl) (fun _ _ _ h => h) (Or.inl ⟨by rfl, ?_⟩) (by assumption) ?_
  rotate_left
  · (intro w hSw; (try dsimp only at hSw); obtain ⟨hc0, hc1, hc2, hc3⟩ := hSw; go_simp); first | done | with_reducible rfl
  simp only [Act.put, List.setIfInBounds_toArray, List.set_cons_zero, List.set_cons_succ]
  refine wpAnyH_take (i := 7) (oi := { dst := some 20, op := Op.fieldAddr 24 (Operand.tmp 1) 3, type := 0, pos := "law.go:120", after := #[], guard := none }) (v := ?_) rfl (by kernel_rfl) (by kernel_rfl) (by kernel_rfl) (fun _ _ _ h => h) (Or.inl ⟨by rfl, ?_⟩) (by assumption) ?_
  rotate_left
  · (intro w hSw; (try dsimp only at hSw); go_simp); first | done | with_reducible rfl
  simp only [Act.put, List.setIfInBounds_toArray, List.set_cons_zero, List.set_cons_succ]
  refine wpAnyH_take (i := 8) (oi := { dst := some 21, op := Op.load 3 (Operand.tmp 20), type := 3, pos := "law.go:120", after := #[{ on := 7, ground := Ground.data }], guard := none }) (v := ?_) rfl (by kernel_rfl) (by kernel_rfl) (by kernel_rfl) (fun _ _ _ h => h) (Or.inl ⟨by rfl, ?_⟩) (by assumption) ?_
  rotate_left
  · (intro w hSw; (try dsimp only at hSw); obtain ⟨hc0, hc1, hc2, hc3⟩ := hSw; go_simp); first | done | with_reducible rfl
  simp only [Act.put, List.setIfInBounds_toArray, List.set_cons_zero, List.set_cons_succ]
  refine wpAnyH_ready (rs := [4]) (by kernel_rfl) (by simp) ?_
  refine AllReadyH.cons rfl (fun K hK => ?_) ?_
  rotate_left
  · exact AllReadyH.nil
  go_simp
  go_wp2_with fail
  refine (new_any (B := w1.heap.size) a b wd HBd.out.size).mono ?_
  rintro e v1 ⟨rfl, L3, b3⟩
  have HV1 := hide (below_on' HBd.out b3)
  have HL1 := hide L3
  have HS1HV : Hid (wd.heap.size < v1.heap.size) := L3.lt
  refine hK.out _ _ (HCX.out _ HV1.out).1 (fun hHeld => ?_)
  clear hK K L3 b3
  refine wpAnyH_ready (rs := [9]) (by kernel_rfl) (by simp) ?_
  refine AllReadyH.cons rfl (fun K hK => ?_) ?_
  rotate_left
  · exact AllReadyH.nil
  go_simp
  go_wp2_with fail
  refine (new_any (B := w1.heap.size) c d v1 HV1.out.size).mono ?_
  rintro e v2 ⟨rfl, L3, b3⟩
  have HV2 := hide (below_on' HV1.out b3)
  replace HL1 := hide (HL1.out.below b3)
  have HL2 := hide L3
  have HS2 : Hid (v1.heap.size < v2.heap.size) := L3.lt
  refine hK.out _ _ (HCX.out _ HV2.out).1 (fun hHeld => ?_)
  clear hK K L3 b3
  refine wpAnyH_take (i := 10) (oi := { dst := some 3, op := Op.assign (Operand.tmp 17), type := 26, pos := "law.go:120", after := #[{ on := 4, ground := Ground.data }, { on := 9, ground := Ground.chain }, { on := 0, ground := Ground.phase }, { on := 1, ground := Ground.phase }, { on := 2, ground := Ground.phase }, { on := 3, ground := Ground.phase }, { on := 4, ground := Ground.phase }, { on := 5, ground := Ground.textOnly Departure.lateStores }, { on := 6, ground := Ground.textOnly Departure.lateStores }, { on := 7, ground := Ground.textOnly Departure.lateStores }, { on := 8, ground := Ground.textOnly Departure.lateStores }, { on := 9, ground := Ground.textOnly Departure.lateStoresUnsure }], guard := none }) (v := ?_) rfl (by kernel_rfl) (by kernel_rfl) (by kernel_rfl) (fun _ _ _ h => h) (Or.inl ⟨by rfl, ?_⟩) (by assumption) ?_
  rotate_left
  · (intro w hSw; (try dsimp only at hSw); go_simp); first | done | with_reducible rfl
  simp only [Act.put, List.setIfInBounds_toArray, List.set_cons_zero, List.set_cons_succ]
  refine wpAnyH_take (i := 11) (oi := { dst := some 4, op := Op.assign (Operand.tmp 22), type := 26, pos := "law.go:120", after := #[{ on := 9, ground := Ground.data }, { on := 10, ground := Ground.chain }, { on := 0, ground := Ground.phase }, { on := 1, ground := Ground.phase }, { on := 2, ground := Ground.phase }, { on := 3, ground := Ground.phase }, { on := 4, ground := Ground.phase }, { on := 5, ground := Ground.phase }, { on := 6, ground := Ground.phase }, { on := 7, ground := Ground.phase }, { on := 8, ground := Ground.phase }, { on := 9, ground := Ground.phase }, { on := 10, ground := Ground.phase }], guard := none }) (v := ?_) rfl (by kernel_rfl) (by kernel_rfl) (by kernel_rfl) (fun _ _ _ h => h) (Or.inl ⟨by rfl, ?_⟩) (by assumption) ?_
  rotate_left
  · (intro w hSw; (try dsimp only at hSw); go_simp); first | done | with_reducible rfl
  simp only [Act.put, List.setIfInBounds_toArray, List.set_cons_zero, List.set_cons_succ]
  refine wpAnyH_done (by kernel_rfl) ?_ _
  clear hHeld
  clear HBd HV1
  go_wp2_with fail
  refine wp_region_held_drew (S := fun W => W.cell? ⟨w.heap.size, 0, none⟩ = some (.int .i64 a) ∧ W.cell? ⟨w.heap.size, 1, none⟩ = some (.int .i64 b) ∧ W.cell? ⟨w.heap.size, 2, none⟩ = some (.int .i64 c) ∧ W.cell? ⟨w.heap.size, 3, none⟩ = some (.int .i64 d)) (by kernel_rfl) ((HCX.out _ (below_on' HV2.out (below_drew1 v2))).1) (fun hHeld => ?_)
  have HBe := hide (below_on' HV2.out (below_drew1 v2))
  have HK := hide (And.intro (HL1.out.below (below_drew1 v2)) (HL2.out.below (below_drew1 v2)))
  have HSd : Hid (v1.heap.size < v2.drew.heap.size) := Nat.lt_of_lt_of_le HS2.out (below_drew1 v2).size
  clear HL1 HL2 HS2
  generalize v2.drew = we at HBe hHeld HK HSd ⊢
  refine wpAnyH_take (i := 0) (oi := { dst := some 23, op := Op.fieldAddr 24 (Operand.tmp 1) 0, type := 0, pos := "law.go:121", after := #[], guard := none }) (v := ?_) rfl (by kernel_rfl) (by kernel_rfl) (by kernel_rfl) (fun _ _ _ h => h) (Or.inl ⟨by rfl, ?_⟩) (by assumption) ?_
  rotate_left
  · (intro w hSw; (try dsimp only at hSw); go_simp); first | done | with_reducible rfl
  simp only [Act.put, List.setIfInBounds_toArray, List.set_cons_zero, List.set_cons_succ]
  refine wpAnyH_take (i := 1) (oi := { dst := some 24, op := Op.load 3 (Operand.tmp 23), type := 3, pos := "law.go:121", after := #[{ on := 0, ground := Ground.data }], guard := none }) (v := ?_) rfl (by kernel_rfl) (by kernel_rfl) (by kernel_rfl) (fun _ _ _ h => h) (Or.inl ⟨by rfl, ?_⟩) (by assumption) ?_
  rotate_left
  · (intro w hSw; (try dsimp only at hSw); obtain ⟨hc0, hc1, hc2, hc3⟩ := hSw; go_simp); first | done | with_reducible rfl
  simp only [Act.put, List.setIfInBounds_toArray, List.set_cons_zero, List.set_cons_succ]
  refine wpAnyH_take (i := 2) (oi := { dst := some 25, op := Op.fieldAddr 24 (Operand.tmp 1) 1, type := 0, pos := "law.go:121", after := #[], guard := none }) (v := ?_) rfl (by kernel_rfl) (by kernel_rfl) (by kernel_rfl) (fun _ _ _ h => h) (Or.inl ⟨by rfl, ?_⟩) (by assumption) ?_
  rotate_left
  · (intro w hSw; (try dsimp only at hSw); go_simp); first | done | with_reducible rfl
  simp only [Act.put, List.setIfInBounds_toArray, List.set_cons_zero, List.set_cons_succ]
  refine wpAnyH_take (i := 3) (oi := { dst := some 26, op := Op.load 3 (Operand.tmp 25), type := 3, pos := "law.go:121", after := #[{ on := 2, ground := Ground.data }], guard := none }) (v := ?_) rfl (by kernel_rfl) (by kernel_rfl) (by kernel_rfl) (fun _ _ _ h => h) (Or.inl ⟨by rfl, ?_⟩) (by assumption) ?_
  rotate_left
  · (intro w hSw; (try dsimp only at hSw); obtain ⟨hc0, hc1, hc2, hc3⟩ := hSw; go_simp); first | done | with_reducible rfl
  simp only [Act.put, List.setIfInBounds_toArray, List.set_cons_zero, List.set_cons_succ]
  refine wpAnyH_take (i := 5) (oi := { dst := some 28, op := Op.fieldAddr 24 (Operand.tmp 1) 2, type := 0, pos := "law.go:121", after := #[], guard := none }) (v := ?_) rfl (by kernel_rfl) (by kernel_rfl) (by kernel_rfl) (fun _ _ _ h => h) (Or.inl ⟨by rfl, ?_⟩) (by assumption) ?_
  rotate_left
  · (intro w hSw; (try dsimp only at hSw); go_simp); first | done | with_reducible rfl
  simp only [Act.put, List.setIfInBounds_toArray, List.set_cons_zero, List.set_cons_succ]
  refine wpAnyH_take (i := 6) (oi := { dst := some 29, op := Op.load 3 (Operand.tmp 28), type := 3, pos := "law.go:121", after := #[{ on := 5, ground := Ground.data }], guard := none }) (v := ?_) rfl (by kernel_rfl) (by kernel_rfl) (by kernel_rfl) (fun _ _ _ h => h) (Or.inl ⟨by rfl, ?_⟩) (by assumption) ?_
  rotate_left
  · (intro w hSw; (try dsimp only at hSw); obtain ⟨hc0, hc1, hc2, hc3⟩ := hSw; go_simp); first | done | with_reducible rfl
  simp only [Act.put, List.setIfInBounds_toArray, List.set_cons_zero, List.set_cons_succ]
  refine wpAnyH_take (i := 7) (oi := { dst := some 30, op := Op.fieldAddr 24 (Operand.tmp 1) 3, type := 0, pos := "law.go:121", after := #[], guard := none }) (v := ?_) rfl (by kernel_rfl) (by kernel_rfl) (by kernel_rfl) (fun _ _ _ h => h) (Or.inl ⟨by rfl, ?_⟩) (by assumption) ?_
  rotate_left
  · (intro w hSw; (try dsimp only at hSw); go_simp); first | done | with_reducible rfl
  simp only [Act.put, List.setIfInBounds_toArray, List.set_cons_zero, List.set_cons_succ]
  refine wpAnyH_take (i := 8) (oi := { dst := some 31, op := Op.load 3 (Operand.tmp 30), type := 3, pos := "law.go:121", after := #[{ on := 7, ground := Ground.data }], guard := none }) (v := ?_) rfl (by kernel_rfl) (by kernel_rfl) (by kernel_rfl) (fun _ _ _ h => h) (Or.inl ⟨by rfl, ?_⟩) (by assumption) ?_
  rotate_left
  · (intro w hSw; (try dsimp only at hSw); obtain ⟨hc0, hc1, hc2, hc3⟩ := hSw; go_simp); first | done | with_reducible rfl
  simp only [Act.put, List.setIfInBounds_toArray, List.set_cons_zero, List.set_cons_succ]
  refine wpAnyH_ready (rs := [4]) (by kernel_rfl) (by simp) ?_
  refine AllReadyH.cons rfl (fun K hK => ?_) ?_
  rotate_left
  · exact AllReadyH.nil
  go_simp
  go_wp2_with fail
  refine (rnew_any (B := w1.heap.size) a b we HBe.out.size).mono ?_
  rintro e u1 ⟨rfl, L3, b3⟩
  have HU1 := hide (below_on' HBe.out b3)
  have HR1 := hide L3
  have HS1HU : Hid (we.heap.size < u1.heap.size) := L3.lt
  replace HK := hide (And.intro (HK.out.1.below b3) (HK.out.2.below b3))
  refine hK.out _ _ (HCX.out _ HU1.out).1 (fun hHeld => ?_)
  clear hK K L3 b3
  refine wpAnyH_ready (rs := [9]) (by kernel_rfl) (by simp) ?_
  refine AllReadyH.cons rfl (fun K hK => ?_) ?_
  rotate_left
  · exact AllReadyH.nil
  go_simp
  go_wp2_with fail
  refine (rnew_any (B := w1.heap.size) c d u1 HU1.out.size).mono ?_
  rintro e u2 ⟨rfl, L3, b3⟩
  have HU2 := hide (below_on' HU1.out b3)
  replace HR1 := hide (HR1.out.below b3)
  have HR2 := hide L3
  have HS2HU : Hid (u1.heap.size < u2.heap.size) := L3.lt
  replace HK := hide (And.intro (HK.out.1.below b3) (HK.out.2.below b3))
  refine hK.out _ _ (HCX.out _ HU2.out).1 (fun hHeld => ?_)
  clear hK K L3 b3
  refine wpAnyH_take (i := 10) (oi := { dst := some 5, op := Op.assign (Operand.tmp 27), type := 28, pos := "law.go:121", after := #[{ on := 4, ground := Ground.data }, { on := 9, ground := Ground.chain }, { on := 0, ground := Ground.phase }, { on := 1, ground := Ground.phase }, { on := 2, ground := Ground.phase }, { on := 3, ground := Ground.phase }, { on := 4, ground := Ground.phase }, { on := 5, ground := Ground.textOnly Departure.lateStores }, { on := 6, ground := Ground.textOnly Departure.lateStores }, { on := 7, ground := Ground.textOnly Departure.lateStores }, { on := 8, ground := Ground.textOnly Departure.lateStores }, { on := 9, ground := Ground.textOnly Departure.lateStoresUnsure }], guard := none }) (v := ?_) rfl (by kernel_rfl) (by kernel_rfl) (by kernel_rfl) (fun _ _ _ h => h) (Or.inl ⟨by rfl, ?_⟩) (by assumption) ?_
  rotate_left
  · (intro w hSw; (try dsimp only at hSw); go_simp); first | done | with_reducible rfl
  simp only [Act.put, List.setIfInBounds_toArray, List.set_cons_zero, List.set_cons_succ]
  refine wpAnyH_take (i := 11) (oi := { dst := some 6, op := Op.assign (Operand.tmp 32), type := 28, pos := "law.go:121", after := #[{ on := 9, ground := Ground.data }, { on := 10, ground := Ground.chain }, { on := 0, ground := Ground.phase }, { on := 1, ground := Ground.phase }, { on := 2, ground := Ground.phase }, { on := 3, ground := Ground.phase }, { on := 4, ground := Ground.phase }, { on := 5, ground := Ground.phase }, { on := 6, ground := Ground.phase }, { on := 7, ground := Ground.phase }, { on := 8, ground := Ground.phase }, { on := 9, ground := Ground.phase }, { on := 10, ground := Ground.phase }], guard := none }) (v := ?_) rfl (by kernel_rfl) (by kernel_rfl) (by kernel_rfl) (fun _ _ _ h => h) (Or.inl ⟨by rfl, ?_⟩) (by assumption) ?_
  rotate_left
  · (intro w hSw; (try dsimp only at hSw); go_simp); first | done | with_reducible rfl
  simp only [Act.put, List.setIfInBounds_toArray, List.set_cons_zero, List.set_cons_succ]
  refine wpAnyH_done (by kernel_rfl) ?_ _
  clear hHeld
  have HD0 : Hid (∃ β, Duo w1 u2 β wd.heap.size we.heap.size v1.heap.size u1.heap.size 0) := ⟨_, Duo.begin HK.out.1 HR1.out HK.out.2 HR2.out HU2.out HS1HV.out HSd.out HS1HU.out⟩
  obtain ⟨g1, hg1⟩ : ∃ g, wd.heap.size = g := ⟨_, rfl⟩
  obtain ⟨g2, hg2⟩ : ∃ g, v1.heap.size = g := ⟨_, rfl⟩
  obtain ⟨h1, hh1⟩ : ∃ g, we.heap.size = g := ⟨_, rfl⟩
  obtain ⟨h2, hh2⟩ : ∃ g, u1.heap.size = g := ⟨_, rfl⟩
  rw [hg1, hg2, hh1, hh2] at HD0
  rw [hg1, hg2, hh1, hh2]
  clear hg1 hg2 hh1 hh2 HK HR1 HR2 HU1 HU2 HS1HV HSd HS1HU HS2HU HBe HV2 HB2
  go_wp2_with fail
  go_loopw [7] (fun i wr => ∃ k : Nat, k ≤ n ∧ i = .int .i64 k ∧ Hid (∃ β, Duo w1 wr β g1 h1 g2 h2 k)) (fun i _ => n - (intOf i).toNat)
  case atStart => exact ⟨0, Nat.zero_le _, rfl, HD0⟩
  case round =>
    clear HD0
    obtain ⟨k, hk, rfl, HD⟩ := hrel
    rename World => wr
    have x4 : wr.cell? ⟨w.heap.size, 4, none⟩ = some (.slice so n sc) := by
      obtain ⟨β, D⟩ := HD.out
      exact (HCX.out wr D.bel).2
    by_cases hlt : k < n
    · obtain ⟨ad, rfl, A0⟩ : ∃ ad, so = some ad ∧ DpAt wr (ad.add (k * 4)) (S.getD k dp0) := by
        obtain ⟨β, D⟩ := HD.out
        exact (HS.out.below D.bel).at k hlt
      obtain ⟨r, Hr⟩ : ∃ r, S.getD k dp0 = r := ⟨_, rfl⟩
      rw [Hr] at A0
      have hld := run_ldO A0
      obtain ⟨wk, hst, X1, B1, -⟩ := madeO wr r wr.heap.size rfl
      have hl2 := run_ldO X1.at
      have hc1 : wk.cell? ⟨wr.heap.size, 1, none⟩ = some (.bool r.second) := X1.at.c1
      have HG : Hid (∃ β, Duo w1 wk β g1 h1 g2 h2 k) := by
        obtain ⟨β, D⟩ := HD.out
        exact ⟨β, D.below B1⟩
      clear A0 B1 X1 Hr HD
      cases hsec : r.second with
      | true =>
        rw [hsec] at hc1
        go_wp2_with fail
        clear hld hst x4 hl2 hc1
        obtain ⟨β, D⟩ := HG.out
        refine (D.play2 (by omega) r).mono ?_
        rintro e w5 ⟨rfl, β', D5, -⟩
        have H5 : Hid (∃ β, Duo w1 w5 β g1 h1 g2 h2 (k + 1)) := ⟨β', D5⟩
        clear D5 D HG
        go_wp2_with fail
        go_roundw
        case rel => exact ⟨k + 1, by omega, by go_num, H5⟩
        case measure => simp [intOf]; omega
      | false =>
        rw [hsec] at hc1
        go_wp2_with fail
        clear hld hst x4 hl2 hc1
        obtain ⟨β, D⟩ := HG.out
        refine (D.play1 (by omega) r).mono ?_
        rintro e w5 ⟨rfl, β', D5, -⟩
        have H5 : Hid (∃ β, Duo w1 w5 β g1 h1 g2 h2 (k + 1)) := ⟨β', D5⟩
        clear D5 D HG
        go_wp2_with fail
        go_roundw
        case rel => exact ⟨k + 1, by omega, by go_num, H5⟩
        case measure => simp [intOf]; omega
    · obtain ⟨wk, hst, X1, B1, Z1⟩ := madeO wr ⟨2, false, 0, 0⟩ wr.heap.size rfl
      have hl2 := run_ldO X1.at
      have HG : Hid (∃ β, Duo w1 wk β g1 h1 g2 h2 k ∧ β (3, 0) = some wr.heap.size) := by
        obtain ⟨β, D⟩ := HD.out
        exact ⟨_, D.box B1 (by omega), upd_at _ _ _⟩
      have HXb : Hid (DBox wk wr.heap.size ⟨2, false, 0, 0⟩) := X1
      clear X1 B1 Z1 HD
      go_wp2_with fail
      clear hst hl2 x4
      obtain ⟨q, hq⟩ : ∃ q, wr.heap.size = q := ⟨_, rfl⟩
      rw [hq] at HG HXb ⊢
      clear hq
      obtain ⟨β, D, hβ⟩ := HG.out
      refine (D.play1 (by omega) ⟨2, false, 0, 0⟩).mono ?_
      rintro e w5 ⟨rfl, β5, D5, x5⟩
      obtain ⟨X5, hβ5⟩ := x5.box hβ HXb.out
      have hl5 := run_ldO X5.at
      have H5 := hide D5
      clear D5 D HG x5 hβ HXb X5 hβ5
      go_wp2_with fail
      refine (H5.out.play2 (by omega) ⟨2, false, 0, 0⟩).mono ?_
      rintro e w6 ⟨rfl, β6, D6, -⟩
      have H6 := hide D6
      clear D6 H5 hl5
      go_wp2_with fail
      refine (H6.out.play1 (by omega) ⟨6, false, 0, -1⟩).mono ?_
      rintro e w7 ⟨rfl, β7, D7, -⟩
      have H7 := hide D7
      clear D7 H6
      go_wp2_with fail
      refine (H7.out.play2 (by omega) ⟨6, false, 0, -1⟩).mono ?_
      rintro e w8 ⟨rfl, β8, D8, -⟩
      have H8 := hide (below_on' HB1.out D8.bel)
      clear D8 H7
      go_wp2_with fail
      go_ret
      exact ⟨rfl, H8.out⟩
end Go.Proofs.Ytgnclfeicgbjpaa
