/- The reference's log. -/
import Derived.Test.YtgnclfeicgbjpaaDFr
import Derived.Laws.AppendOwnNone
import Derived.Lib.MinMax
namespace Go.Proofs.Ytgnclfeicgbjpaa
open Go.RowKit
variable {B : Nat} {w w' : World} {g : Nat} {m s k : Int} {A : List Int} {ao : Option Addr} {cap : Nat}

def RC (m s k : Int) (ao : Option Addr) (n cap : Nat) : Array Value := #[.int .i64 m, .int .i64 s, .int .i64 k, .slice ao n cap]
/-- the reference's log at g: how many it may hold, the first number, how many are gone, all that was pushed -/
structure Rf (B : Nat) (w : World) (g : Nat) (m s k : Int) (A : List Int) (ao : Option Addr) (cap : Nat) : Prop where
  box : w.heap[g]? = some (.cells (RC m s k ao A.length cap) 49 (0, 0))
  hg : B ≤ g
  own : w.ownsRow B 3 1 (.slice ao A.length cap) A.length (ics A)
  off : ∀ ad, ao = some ad → ad.block ≠ g
theorem Rf.lt (h : Rf B w g m s k A ao cap) : g < w.heap.size := (Array.getElem?_eq_some_iff.1 h.box).1
theorem Rf.row (h : Rf B w g m s k A ao cap) : ∀ ad, ao = some ad → B ≤ ad.block ∧ ad.block < w.heap.size := fun ad e => h.own.lt ad.block (by rw [e]; rfl)
theorem Rf.c0 (h : Rf B w g m s k A ao cap) : w.cell? ⟨g, 0, none⟩ = some (.int .i64 m) := by simp [World.cell?, h.box, RC]
theorem Rf.c1 (h : Rf B w g m s k A ao cap) : w.cell? ⟨g, 1, none⟩ = some (.int .i64 s) := by simp [World.cell?, h.box, RC]
theorem Rf.c2 (h : Rf B w g m s k A ao cap) : w.cell? ⟨g, 2, none⟩ = some (.int .i64 k) := by simp [World.cell?, h.box, RC]
theorem Rf.c3 (h : Rf B w g m s k A ao cap) : w.cell? ⟨g, 3, none⟩ = some (.slice ao A.length cap) := by simp [World.cell?, h.box, RC]
theorem Rf.f (h : Rf B w g m s k A ao cap) (t : Nat) : w.frozen? ⟨g, t, none⟩ = false := by simp [World.frozen?, h.box]
theorem Rf.on (h : Rf B w g m s k A ao cap) (h1 : w'.heap[g]? = w.heap[g]?) (h2 : ∀ ad, ao = some ad → w'.heap[ad.block]? = w.heap[ad.block]?) : Rf B w' g m s k A ao cap :=
  ⟨h1.trans h.box, h.hg, own_on h.own h2, h.off⟩
theorem Rf.below (h : Rf B w g m s k A ao cap) (hb : Below w.heap.size w w') : Rf B w' g m s k A ao cap :=
  h.on (hb.block g h.lt) (fun ad e => hb.block _ (h.row ad e).2)
theorem Rf.set2 (h : Rf B w g m s k A ao cap) (z : Int) : Rf B (w.setCell ⟨g, 2, none⟩ (.int .i64 z)) g m s z A ao cap ∧ Kp w (w.setCell ⟨g, 2, none⟩ (.int .i64 z)) g ao := by
  have e : ∀ k, k ≠ g → (w.setCell ⟨g, 2, none⟩ (.int .i64 z)).heap[k]? = w.heap[k]? := fun k hk => Go.Deep.blk_setCell_other w ⟨g, 2, none⟩ _ k hk
  refine ⟨⟨?_, h.hg, own_on h.own (fun ad e2 => e _ (h.off ad e2)), h.off⟩, ⟨rfl, rfl, rfl, by simp, fun k _ h1 _ => e k h1⟩⟩
  simp [World.setCell, h.box, Array.getElem?_modify, RC]
theorem Rf.set3 {n : Nat} (hx : w.heap[g]? = some (.cells (RC m s k ao n cap) 49 (0, 0))) (hg : B ≤ g) {Y : List Int} {bo : Option Addr} {c : Nat} (ho : w.ownsRow B 3 1 (.slice bo Y.length c) Y.length (ics Y)) (hf : ∀ ad, bo = some ad → ad.block ≠ g) :
    Rf B (w.setCell ⟨g, 3, none⟩ (.slice bo Y.length c)) g m s k Y bo c ∧ Kp w (w.setCell ⟨g, 3, none⟩ (.slice bo Y.length c)) g ao := by
  have e : ∀ k, k ≠ g → (w.setCell ⟨g, 3, none⟩ (.slice bo Y.length c)).heap[k]? = w.heap[k]? := fun k hk => Go.Deep.blk_setCell_other w ⟨g, 3, none⟩ _ k hk
  refine ⟨⟨?_, hg, own_on ho (fun ad e2 => e _ (hf ad e2)), hf⟩, ⟨rfl, rfl, rfl, by simp, fun k _ h1 _ => e k h1⟩⟩
  simp [World.setCell, hx, Array.getElem?_modify, RC]
/-- the numbers stay in bounds -/
structure Rb (m s k : Int) (A : List Int) : Prop where
  m0 : 0 ≤ m
  m1 : m ≤ 64
  s0 : 0 ≤ s
  s1 : s ≤ 4611686018427387904
  k0 : 0 ≤ k
  k1 : k ≤ A.length
  l : A.length ≤ 4400000000000
theorem rnew_any (x y : Int) (w : World) (hB : B ≤ w.heap.size) : Calls Try.prog 7 #[.int .i64 x, .int .i64 y] w fun e w' =>
    e = .returned (ptr w.heap.size) ∧ Rf B w' w.heap.size (btw x 0 64) (btw y 0 4611686018427387904) 0 [] none 0 ∧ Below w.heap.size w w' := by
  have hL : Hid (Rf B (w.alloc (.cells (RC (btw x 0 64) (btw y 0 4611686018427387904) 0 none 0 0) 49)) w.heap.size (btw x 0 64) (btw y 0 4611686018427387904) 0 [] none 0) :=
    ⟨by rw [heap_alloc_new]; rfl, hB, World.ownsRow_nil _ _ _ _, fun ad e => by cases e⟩
  obtain ⟨x1, hx1⟩ : ∃ x1, max x 0 = x1 := ⟨_, rfl⟩
  obtain ⟨y1, hy1⟩ : ∃ y1, max y 0 = y1 := ⟨_, rfl⟩
  obtain ⟨x2, hx2⟩ : ∃ x2, btw x 0 64 = x2 := ⟨_, rfl⟩
  obtain ⟨y2, hy2⟩ : ∃ y2, btw y 0 4611686018427387904 = y2 := ⟨_, rfl⟩
  have m1 : ∀ (ts : Array TypeId) (t : TypeId) (w : World), (Builtin.max_ ts t #[.int .i64 x, .int .i64 0]).run Try.prog w = .ok (.int .i64 x1) w := fun ts t w => by rw [← hx1]; exact Lib.run_max_ints w ts t .i64 .i64 x 0
  have m2 : ∀ (ts : Array TypeId) (t : TypeId) (w : World), (Builtin.max_ ts t #[.int .i64 y, .int .i64 0]).run Try.prog w = .ok (.int .i64 y1) w := fun ts t w => by rw [← hy1]; exact Lib.run_max_ints w ts t .i64 .i64 y 0
  have m3 : ∀ (ts : Array TypeId) (t : TypeId) (w : World), (Builtin.min_ ts t #[.int .i64 x1, .int .i64 64]).run Try.prog w = .ok (.int .i64 x2) w := fun ts t w => by rw [← hx2, ← hx1]; exact Lib.run_min_ints w ts t .i64 .i64 (max x 0) 64
  have m4 : ∀ (ts : Array TypeId) (t : TypeId) (w : World), (Builtin.min_ ts t #[.int .i64 y1, .int .i64 4611686018427387904]).run Try.prog w = .ok (.int .i64 y2) w := fun ts t w => by rw [← hy2, ← hy1]; exact Lib.run_min_ints w ts t .i64 .i64 (max y 0) 4611686018427387904
  rw [hx2, hy2] at hL ⊢
  clear hx1 hy1 hx2 hy2
  go_enter Try.func7, Try.ntmps7
  go_wp2_with fail
  go_ret
  exact ⟨rfl, hL.out, below_new _ _⟩
theorem rfirst_any (w : World) (L : Rf B w g m s k A ao cap) (D : Rb m s k A) : Calls Try.prog 19 #[ptr g] w fun e w' => e = .returned (.int .i64 (s + k)) ∧ ∃ n, w' = w.drewN n := by
  have HW : Hid (wrap64 (s + k) = s + k) := by have h1 := D.s0; have h2 := D.s1; have := D.k0; have := D.k1; have := D.l; exact w64 (by omega) (by omega)
  have c1 := L.c1
  have c2 := L.c2
  clear L D
  go_enter Try.func19, Try.ntmps19
  go_wp2_with fail
  go_quiet (fail)
  rw [HW.out]
  go_wp2_with fail
  go_ret
  exact ⟨rfl, _, rfl⟩
theorem rnext_any (w : World) (L : Rf B w g m s k A ao cap) (D : Rb m s k A) : Calls Try.prog 20 #[ptr g] w fun e w' => e = .returned (.int .i64 (s + A.length)) ∧ ∃ n, w' = w.drewN n := by
  have HW : Hid (wrap64 (s + A.length) = s + A.length) := by have h1 := D.s0; have h2 := D.s1; have := D.l; exact w64 (by omega) (by omega)
  have c1 := L.c1
  have c2 := L.c3
  clear L D
  go_enter Try.func20, Try.ntmps20
  go_wp2_with fail
  go_quiet (fail)
  rw [HW.out]
  go_wp2_with fail
  go_ret
  exact ⟨rfl, _, rfl⟩
theorem Rf.drewN (L : Rf B w g m s k A ao cap) (n : Nat) : Rf B (w.drewN n) g m s k A ao cap := L.below (below_drewN w n)
/-- behind the append: the list is stored -/
theorem rpush_mid {w1 w2 : World} {x : Int} {bo : Option Addr} {cap2 : Nat} (L : Rf B w1 g m s k A ao cap) (K : Kp w w1 g ao) (_ : g < w.heap.size) (_ : ∀ ad, ao = some ad → ad.block < w.heap.size)
    (o2 : w2.ownsRow B 3 1 (.slice bo (A ++ [x]).length cap2) (A ++ [x]).length (ics (A ++ [x]))) (k2 : Kp w1 w2 w2.heap.size ao) (n2 : ∀ ad', bo = some ad' → (∃ ad, ao = some ad ∧ ad.block = ad'.block) ∨ w1.heap.size ≤ ad'.block) :
    w2.cell? ⟨g, 3, none⟩ = some (.slice ao A.length cap) ∧ w2.frozen? ⟨g, 3, none⟩ = false ∧ Hid (Rf B (w2.setCell ⟨g, 3, none⟩ (.slice bo (A.length + 1) cap2)) g m s k (A ++ [x]) bo cap2 ∧ Kp w (w2.setCell ⟨g, 3, none⟩ (.slice bo (A.length + 1) cap2)) g ao ∧ Nw w ao bo) := by
  have hg1 := L.lt
  have hb2 : w2.heap[g]? = w1.heap[g]? := k2.block g hg1 (by have := k2.size; omega) (fun ad e => L.off ad e)
  have hx := hb2.trans L.box
  have hne : ∀ ad, bo = some ad → ad.block ≠ g := fun ad e e2 => by
    rcases n2 ad e with ⟨ad', e', h'⟩ | h'
    · exact L.off ad' e' (h'.trans e2)
    · omega
  obtain ⟨h1, h2⟩ := Rf.set3 (B := B) hx L.hg o2 hne
  have el : (A ++ [x]).length = A.length + 1 := by simp
  rw [el] at h1 h2
  refine ⟨by simp [World.cell?, hx, RC], by simp [World.frozen?, hx], h1, ⟨h2.os.trans (k2.os.trans K.os), h2.tape.trans (k2.tape.trans K.tape), h2.output.trans (k2.output.trans K.output), Nat.le_trans K.size (Nat.le_trans k2.size h2.size), fun i hi hg' ha => ?_⟩, fun ad' e => ?_⟩
  · have hi1 : i < w1.heap.size := Nat.lt_of_lt_of_le hi K.size
    exact ((h2.block i (Nat.lt_of_lt_of_le hi1 k2.size) hg' ha).trans (k2.block i hi1 (by have := k2.size; omega) ha)).trans (K.block i hi hg' ha)
  · rcases n2 ad' e with h | h
    · exact Or.inl h
    · exact Or.inr (Nat.le_trans K.size h)
set_option maxRecDepth 100000 in
set_option maxHeartbeats 1000000 in
theorem rpush_any (w : World) (L : Rf B w g m s k A ao cap) (D : Rb m s k A) (hz : A.length < 4400000000000) (x : Int) : Calls Try.prog 18 #[ptr g, .int .i64 x] w fun e w' =>
    ∃ bo cap2, e = .returned (.int .i64 (s + A.length)) ∧ Rf B w' g m s (max k ((A.length : Int) + 1 - m)) (A ++ [x]) bo cap2 ∧ Kp w w' g ao ∧ Nw w ao bo := by
  have HD2 : Hid (Rb m s (max k ((A.length : Int) + 1 - m)) (A ++ [x])) := ⟨D.m0, D.m1, D.s0, D.s1, by have := D.k0; omega, by have := D.k1; have := D.m0; simp; omega, by simp; omega⟩
  have HZ := hide hz
  have HL1 := hide (L.below (below_new w (.cells #[.int .i64 x] 3)))
  have HB : Hid (B ≤ (w.alloc (.cells #[.int .i64 x] 3)).heap.size) := by show _ ≤ _; have := L.hg; have := L.lt; simp; omega
  have HC : Hid ((w.alloc (.cells #[.int .i64 x] 3)).cell? ⟨w.heap.size, 0, none⟩ = some (.int .i64 x)) := by show _ = _; rw [World.cell?_alloc_new]; rfl
  have HK1 : Hid (Kp w (w.alloc (.cells #[.int .i64 x] 3)) g ao) := Kp.of (below_new w _)
  have HLT : Hid (∀ ad, ao = some ad → ad.block < w.heap.size) := fun ad e => (L.row ad e).2
  have HG : Hid (g < w.heap.size) := L.lt
  have HW : Hid (IntKind.i64.wrap ((A.length : Int) + 1 - m) = (A.length : Int) + 1 - m) := by show _ = _; have := D.m0; have := D.m1; rw [IntKind.wrap_i64]; omega
  have HW3 : Hid (wrap64 (s + ((A.length : Int) + 1) - 1) = s + A.length) := by show _ = _; have := D.s0; have := D.s1; rw [w64 (by omega) (by omega)]; omega
  obtain ⟨q, Hq⟩ : ∃ q, Hid (max k ((A.length : Int) + 1 - m) = q) := ⟨_, rfl⟩
  have hmx : ∀ (ts : Array TypeId) (t : TypeId) (w : World), (Builtin.max_ ts t #[.int .i64 k, .int .i64 ((A.length : Int) + 1 - m)]).run Try.prog w = .ok (.int .i64 q) w := fun ts t w => by rw [← Hq.out]; exact Lib.run_max_ints w ts t .i64 .i64 k _
  rw [Hq.out] at HD2 ⊢
  have c3 := L.c3
  clear L D hz
  go_enter Try.func18, Try.ntmps18
  go_wp2_with (at_builtin; refine append1 x HL1.out.own ⟨w.heap.size, 0, none⟩ 1 HC.out (by have := HZ.out; omega) HB.out rfl (.tmp 9) (.tmp 11) rfl rfl rfl ?_; intro bo cap2 w2 o2 k2 n2; obtain ⟨s2, s3, HS⟩ := rpush_mid HL1.out HK1.out HG.out HLT.out o2 k2 n2; clear o2 k2 n2)
  generalize (w2.setCell ⟨g, 3, none⟩ (.slice bo (A.length + 1) cap2)) = w4 at HS ⊢
  clear s2 s3 w2 HL1 HC HB HK1 c3
  have el : (A ++ [x]).length = A.length + 1 := by simp
  have p3 := (HS.out.1.below (below_drew1 w4)).c3
  have p2 := (HS.out.1.below (below_drew1 w4)).c2
  have f2 := (HS.out.1.below (below_drew1 w4)).f 2
  rw [el] at p3
  refine wp_region_held_drew (S := fun W => W.cell? ⟨g, 0, none⟩ = some (.int .i64 m) ∧ W.cell? ⟨g, 3, none⟩ = some (.slice bo (A.length + 1) cap2)) (by kernel_rfl) (⟨(HS.out.1.below (below_drew1 w4)).c0, p3⟩) (fun hHeld => ?_)
  refine wpAnyH_take (i := 0) (oi := { dst := some 15, op := Op.move (Operand.tmp 0), type := 28, pos := "ref.go:28", after := #[], guard := none }) (v := ?_) rfl (by kernel_rfl) (by kernel_rfl) (by kernel_rfl) (fun _ _ _ h => h) (Or.inl ⟨by rfl, ?_⟩) (by assumption) ?_
  rotate_left
  · (intro w hSw; (try dsimp only at hSw); go_simp); first | done | with_reducible rfl
  simp only [Act.put, List.setIfInBounds_toArray, List.set_cons_zero, List.set_cons_succ]
  refine wpAnyH_take (i := 1) (oi := { dst := some 16, op := Op.move (Operand.tmp 0), type := 28, pos := "ref.go:28", after := #[], guard := none }) (v := ?_) rfl (by kernel_rfl) (by kernel_rfl) (by kernel_rfl) (fun _ _ _ h => h) (Or.inl ⟨by rfl, ?_⟩) (by assumption) ?_
  rotate_left
  · (intro w hSw; (try dsimp only at hSw); go_simp); first | done | with_reducible rfl
  simp only [Act.put, List.setIfInBounds_toArray, List.set_cons_zero, List.set_cons_succ]
  refine wpAnyH_take (i := 2) (oi := { dst := some 17, op := Op.nilCheck (Operand.tmp 16), type := 0, pos := "ref.go:28", after := #[{ on := 1, ground := Ground.data }], guard := none }) (v := ?_) rfl (by kernel_rfl) (by kernel_rfl) (by kernel_rfl) (fun _ _ _ h => h) (Or.inl ⟨by rfl, ?_⟩) (by assumption) ?_
  rotate_left
  · (intro w hSw; (try dsimp only at hSw); go_simp); first | done | with_reducible rfl
  simp only [Act.put, List.setIfInBounds_toArray, List.set_cons_zero, List.set_cons_succ]
  refine wpAnyH_take (i := 3) (oi := { dst := some 18, op := Op.fieldAddr 49 (Operand.tmp 17) 2, type := 0, pos := "ref.go:28", after := #[{ on := 2, ground := Ground.data }], guard := none }) (v := ?_) rfl (by kernel_rfl) (by kernel_rfl) (by kernel_rfl) (fun _ _ _ h => h) (Or.inl ⟨by rfl, ?_⟩) (by assumption) ?_
  rotate_left
  · (intro w hSw; (try dsimp only at hSw); go_simp); first | done | with_reducible rfl
  simp only [Act.put, List.setIfInBounds_toArray, List.set_cons_zero, List.set_cons_succ]
  refine wpAnyH_take (i := 5) (oi := { dst := some 20, op := Op.move (Operand.tmp 0), type := 28, pos := "ref.go:28", after := #[], guard := none }) (v := ?_) rfl (by kernel_rfl) (by kernel_rfl) (by kernel_rfl) (fun _ _ _ h => h) (Or.inl ⟨by rfl, ?_⟩) (by assumption) ?_
  rotate_left
  · (intro w hSw; (try dsimp only at hSw); go_simp); first | done | with_reducible rfl
  simp only [Act.put, List.setIfInBounds_toArray, List.set_cons_zero, List.set_cons_succ]
  refine wpAnyH_take (i := 6) (oi := { dst := some 21, op := Op.nilCheck (Operand.tmp 20), type := 0, pos := "ref.go:28", after := #[{ on := 5, ground := Ground.data }], guard := none }) (v := ?_) rfl (by kernel_rfl) (by kernel_rfl) (by kernel_rfl) (fun _ _ _ h => h) (Or.inl ⟨by rfl, ?_⟩) (by assumption) ?_
  rotate_left
  · (intro w hSw; (try dsimp only at hSw); go_simp); first | done | with_reducible rfl
  simp only [Act.put, List.setIfInBounds_toArray, List.set_cons_zero, List.set_cons_succ]
  refine wpAnyH_take (i := 7) (oi := { dst := some 22, op := Op.fieldAddr 49 (Operand.tmp 21) 3, type := 0, pos := "ref.go:28", after := #[{ on := 6, ground := Ground.data }], guard := none }) (v := ?_) rfl (by kernel_rfl) (by kernel_rfl) (by kernel_rfl) (fun _ _ _ h => h) (Or.inl ⟨by rfl, ?_⟩) (by assumption) ?_
  rotate_left
  · (intro w hSw; (try dsimp only at hSw); go_simp); first | done | with_reducible rfl
  simp only [Act.put, List.setIfInBounds_toArray, List.set_cons_zero, List.set_cons_succ]
  refine wpAnyH_take (i := 8) (oi := { dst := some 23, op := Op.load 38 (Operand.tmp 22), type := 38, pos := "ref.go:28", after := #[{ on := 7, ground := Ground.data }], guard := none }) (v := ?_) rfl (by kernel_rfl) (by kernel_rfl) (by kernel_rfl) (fun _ _ _ h => h) (Or.inl ⟨by rfl, ?_⟩) (by assumption) ?_
  rotate_left
  · (intro w hSw; (try dsimp only at hSw); obtain ⟨hc0, hc3⟩ := hSw; go_simp); first | done | with_reducible rfl
  simp only [Act.put, List.setIfInBounds_toArray, List.set_cons_zero, List.set_cons_succ]
  refine wpAnyH_take (i := 9) (oi := { dst := some 24, op := Op.call { callee := Callee.builtin Builtin.len, args := #[Operand.tmp 23], argTypes := #[38] }, type := 3, pos := "ref.go:28", after := #[{ on := 8, ground := Ground.data }], guard := none }) (v := ?_) rfl (by kernel_rfl) (by kernel_rfl) (by kernel_rfl) (fun _ _ _ h => h) (Or.inl ⟨by rfl, ?_⟩) (by assumption) ?_
  rotate_left
  · (intro w hSw; (try dsimp only at hSw); go_simp); first | done | with_reducible rfl
  simp only [Act.put, List.setIfInBounds_toArray, List.set_cons_zero, List.set_cons_succ]
  refine wpAnyH_take (i := 10) (oi := { dst := some 25, op := Op.move (Operand.tmp 0), type := 28, pos := "ref.go:28", after := #[], guard := none }) (v := ?_) rfl (by kernel_rfl) (by kernel_rfl) (by kernel_rfl) (fun _ _ _ h => h) (Or.inl ⟨by rfl, ?_⟩) (by assumption) ?_
  rotate_left
  · (intro w hSw; (try dsimp only at hSw); go_simp); first | done | with_reducible rfl
  simp only [Act.put, List.setIfInBounds_toArray, List.set_cons_zero, List.set_cons_succ]
  refine wpAnyH_take (i := 11) (oi := { dst := some 26, op := Op.nilCheck (Operand.tmp 25), type := 0, pos := "ref.go:28", after := #[{ on := 10, ground := Ground.data }], guard := none }) (v := ?_) rfl (by kernel_rfl) (by kernel_rfl) (by kernel_rfl) (fun _ _ _ h => h) (Or.inl ⟨by rfl, ?_⟩) (by assumption) ?_
  rotate_left
  · (intro w hSw; (try dsimp only at hSw); go_simp); first | done | with_reducible rfl
  simp only [Act.put, List.setIfInBounds_toArray, List.set_cons_zero, List.set_cons_succ]
  refine wpAnyH_take (i := 12) (oi := { dst := some 27, op := Op.fieldAddr 49 (Operand.tmp 26) 0, type := 0, pos := "ref.go:28", after := #[{ on := 11, ground := Ground.data }], guard := none }) (v := ?_) rfl (by kernel_rfl) (by kernel_rfl) (by kernel_rfl) (fun _ _ _ h => h) (Or.inl ⟨by rfl, ?_⟩) (by assumption) ?_
  rotate_left
  · (intro w hSw; (try dsimp only at hSw); go_simp); first | done | with_reducible rfl
  simp only [Act.put, List.setIfInBounds_toArray, List.set_cons_zero, List.set_cons_succ]
  refine wpAnyH_take (i := 13) (oi := { dst := some 28, op := Op.load 3 (Operand.tmp 27), type := 3, pos := "ref.go:28", after := #[{ on := 12, ground := Ground.data }], guard := none }) (v := ?_) rfl (by kernel_rfl) (by kernel_rfl) (by kernel_rfl) (fun _ _ _ h => h) (Or.inl ⟨by rfl, ?_⟩) (by assumption) ?_
  rotate_left
  · (intro w hSw; (try dsimp only at hSw); obtain ⟨hc0, hc3⟩ := hSw; go_simp); first | done | with_reducible rfl
  simp only [Act.put, List.setIfInBounds_toArray, List.set_cons_zero, List.set_cons_succ]
  refine wpAnyH_take (i := 14) (oi := { dst := some 29, op := Op.binOp BinOp.sub 3 (Operand.tmp 24) (Operand.tmp 28) 3, type := 3, pos := "ref.go:28", after := #[{ on := 9, ground := Ground.data }, { on := 13, ground := Ground.data }], guard := none }) (v := ?_) rfl (by kernel_rfl) (by kernel_rfl) (by kernel_rfl) (fun _ _ _ h => h) (Or.inl ⟨by rfl, ?_⟩) (by assumption) ?_
  rotate_left
  · (intro w hSw; (try dsimp only at hSw); go_simp); first | done | with_reducible rfl
  simp only [Act.put, List.setIfInBounds_toArray, List.set_cons_zero, List.set_cons_succ]
  rw [HW.out]
  refine wpAnyH_ready (rs := [4]) (by kernel_rfl) (by simp) ?_
  refine AllReadyH.cons rfl (fun K hK => ?_) ?_
  rotate_left
  · exact AllReadyH.nil
  go_simp
  refine hK.out _ _ ⟨(HS.out.1.below (below_drew1 w4)).c0, p3⟩ (fun hHeld => ?_)
  clear hK K
  refine wpAnyH_take (i := 15) (oi := { dst := some 30, op := Op.call { callee := Callee.builtin Builtin.max, args := #[Operand.tmp 19, Operand.tmp 29], argTypes := #[3, 3] }, type := 3, pos := "ref.go:28", after := #[{ on := 4, ground := Ground.data }, { on := 14, ground := Ground.data }], guard := none }) (v := ?_) rfl (by kernel_rfl) (by kernel_rfl) (by kernel_rfl) (fun _ _ _ h => h) (Or.inl ⟨by rfl, ?_⟩) (by assumption) ?_
  rotate_left
  · (intro w hSw; (try dsimp only at hSw); go_simp); first | done | with_reducible rfl
  simp only [Act.put, List.setIfInBounds_toArray, List.set_cons_zero, List.set_cons_succ]
  refine wpAnyH_take (i := 16) (oi := { dst := some 31, op := Op.nilCheck (Operand.tmp 15), type := 0, pos := "ref.go:28", after := #[{ on := 0, ground := Ground.data }, { on := 0, ground := Ground.phase }, { on := 1, ground := Ground.phase }, { on := 2, ground := Ground.phase }, { on := 3, ground := Ground.phase }, { on := 4, ground := Ground.phase }, { on := 5, ground := Ground.phase }, { on := 6, ground := Ground.phase }, { on := 7, ground := Ground.phase }, { on := 8, ground := Ground.phase }, { on := 9, ground := Ground.phase }, { on := 10, ground := Ground.phase }, { on := 11, ground := Ground.phase }, { on := 12, ground := Ground.phase }, { on := 13, ground := Ground.phase }, { on := 14, ground := Ground.phase }, { on := 15, ground := Ground.phase }], guard := none }) (v := ?_) rfl (by kernel_rfl) (by kernel_rfl) (by kernel_rfl) (fun _ _ _ h => h) (Or.inl ⟨by rfl, ?_⟩) (by assumption) ?_
  rotate_left
  · (intro w hSw; (try dsimp only at hSw); go_simp); first | done | with_reducible rfl
  simp only [Act.put, List.setIfInBounds_toArray, List.set_cons_zero, List.set_cons_succ]
  refine wpAnyH_take (i := 17) (oi := { dst := some 32, op := Op.fieldAddr 49 (Operand.tmp 31) 2, type := 0, pos := "ref.go:28", after := #[{ on := 16, ground := Ground.data }, { on := 0, ground := Ground.phase }, { on := 1, ground := Ground.phase }, { on := 2, ground := Ground.phase }, { on := 3, ground := Ground.phase }, { on := 4, ground := Ground.phase }, { on := 5, ground := Ground.phase }, { on := 6, ground := Ground.phase }, { on := 7, ground := Ground.phase }, { on := 8, ground := Ground.phase }, { on := 9, ground := Ground.phase }, { on := 10, ground := Ground.phase }, { on := 11, ground := Ground.phase }, { on := 12, ground := Ground.phase }, { on := 13, ground := Ground.phase }, { on := 14, ground := Ground.phase }, { on := 15, ground := Ground.phase }], guard := none }) (v := ?_) rfl (by kernel_rfl) (by kernel_rfl) (by kernel_rfl) (fun _ _ _ h => h) (Or.inl ⟨by rfl, ?_⟩) (by assumption) ?_
  rotate_left
  · (intro w hSw; (try dsimp only at hSw); go_simp); first | done | with_reducible rfl
  simp only [Act.put, List.setIfInBounds_toArray, List.set_cons_zero, List.set_cons_succ]
  refine wpAnyH_ready (rs := [18]) (by kernel_rfl) (by simp) ?_
  refine AllReadyH.cons rfl (fun K hK => ?_) ?_
  rotate_left
  · exact AllReadyH.nil
  go_simp
  have HN := hide ((HS.out.1.below (below_drew1 w4)).set2 q)
  refine hK.out _ _ ⟨HN.out.1.c0, by have := HN.out.1.c3; rwa [el] at this⟩ (fun hHeld => ?_)
  clear hK K
  refine wpAnyH_done (by kernel_rfl) ?_ _
  clear hHeld
  have HFin : Hid (Rf B ((w4.setCell ⟨g, 2, none⟩ (.int .i64 q)).drew) g m s q (A ++ [x]) bo cap2 ∧ Kp w ((w4.setCell ⟨g, 2, none⟩ (.int .i64 q)).drew) g ao ∧ Nw w ao bo) := by
    refine ⟨HN.out.1, ?_, HS.out.2.2⟩
    refine Kp.trans (HS.out.2.1) (Kp.trans (Kp.of (below_drew1 w4)) HN.out.2 (fun ad e => Or.inl ⟨ad, e, rfl⟩)) (fun ad e => HS.out.2.2 ad e)
  generalize (w4.setCell ⟨g, 2, none⟩ (.int .i64 q)).drew = w5 at HFin ⊢
  clear HN p3 p2 f2
  go_wp2_with fail
  refine (rnext_any w5 HFin.out.1 HD2.out).mono ?_
  rintro e w6 ⟨rfl, nn, rfl⟩
  have HF2 : Hid (Rf B (w5.drewN nn) g m s q (A ++ [x]) bo cap2 ∧ Kp w (w5.drewN nn) g ao ∧ Nw w ao bo) := ⟨HFin.out.1.drewN nn, Kp.trans HFin.out.2.1 (Kp.of (below_drewN w5 nn)) (fun ad e => HFin.out.2.2 ad e), HFin.out.2.2⟩
  clear HFin
  go_wp2_with fail
  rw [HW3.out]
  go_ret
  exact ⟨bo, cap2, rfl, HF2.out⟩
/-- how many Trim lets go -/
def rcut (s k : Int) (A : List Int) (n : Int) : Nat := (min n (s + A.length) - (s + k)).toNat
set_option maxHeartbeats 1000000 in
theorem rtrim_any (w : World) (L : Rf B w g m s k A ao cap) (D : Rb m s k A) (n : Int) : Calls Try.prog 23 #[ptr g, .int .i64 n] w fun e w' =>
    e = .returned (.int .i64 (rcut s k A n)) ∧ Rf B w' g m s (k + rcut s k A n) A ao cap ∧ Kp w w' g ao := by
  obtain ⟨c, Hc⟩ : ∃ c, Hid (rcut s k A n = c) := ⟨_, rfl⟩
  have HC : Hid ((c : Int) = max 0 (min n (s + A.length) - (s + k))) := by show _ = _; rw [← Hc.out]; unfold rcut; omega
  rw [Hc.out]
  have hcb : (c : Int) ≤ 4400000000000 := by have := HC.out; have := D.k0; have := D.l; have := D.k1; omega
  have HL := hide L
  have HD := hide D
  clear L D Hc
  go_enter Try.func23, Try.ntmps23
  go_wp2_with fail
  go_loopw [5] (fun i wr => ∃ t : Nat, t ≤ c ∧ i = .int .i64 t ∧ Hid (Rf B wr g m s (k + t) A ao cap ∧ Kp w wr g ao)) (fun i _ => c - (intOf i).toNat)
  case atStart => exact ⟨0, Nat.zero_le _, rfl, by simpa using HL.out, Kp.refl _ _ _⟩
  case round =>
    obtain ⟨t, ht, rfl, H⟩ := hrel
    have HD1 : Hid (Rb m s (k + t) A) := ⟨HD.out.m0, HD.out.m1, HD.out.s0, HD.out.s1, by have := HD.out.k0; omega, by have := HC.out; have := HD.out.k1; omega, HD.out.l⟩
    by_cases hlt : t < c
    · have d1 : s + (k + t) < n := by have := HC.out; omega
      have d2 : s + (k + t) < s + A.length := by have := HC.out; omega
      have hw : wrap64 (k + t + 1) = k + t + 1 := by have := HD1.out.k0; have := HD1.out.k1; have := HD1.out.l; exact w64 (by omega) (by omega)
      go_wp2_with fail
      refine (rfirst_any _ H.out.1 HD1.out).mono ?_
      rintro e w1 ⟨rfl, n1, hw1⟩
      have H1 : Hid (Rf B w1 g m s (k + t) A ao cap ∧ Kp w w1 g ao) := by rw [hw1]; exact ⟨H.out.1.drewN n1, Kp.trans H.out.2 (Kp.of (below_drewN _ n1)) (fun ad e => Or.inl ⟨ad, e, rfl⟩)⟩
      clear hw1 H
      go_wp2_with fail
      refine (rfirst_any _ H1.out.1 HD1.out).mono ?_
      rintro e w2 ⟨rfl, n2, hw2⟩
      have H2 : Hid (Rf B w2 g m s (k + t) A ao cap ∧ Kp w w2 g ao) := by rw [hw2]; exact ⟨H1.out.1.drewN n2, Kp.trans H1.out.2 (Kp.of (below_drewN _ n2)) (fun ad e => Or.inl ⟨ad, e, rfl⟩)⟩
      clear hw2 H1
      go_wp2_with fail
      refine (rnext_any _ H2.out.1 HD1.out).mono ?_
      rintro e w3 ⟨rfl, n3, hw3⟩
      have H3 : Hid (Rf B w3 g m s (k + t) A ao cap ∧ Kp w w3 g ao) := by rw [hw3]; exact ⟨H2.out.1.drewN n3, Kp.trans H2.out.2 (Kp.of (below_drewN _ n3)) (fun ad e => Or.inl ⟨ad, e, rfl⟩)⟩
      clear hw3 H2
      have c2 := H3.out.1.c2
      have f2 := H3.out.1.f 2
      have HN := hide (H3.out.1.set2 (k + t + 1))
      have HN2 : Hid (Kp w (w3.setCell ⟨g, 2, none⟩ (.int .i64 (k + t + 1))) g ao) := Kp.trans H3.out.2 HN.out.2 (fun ad e => Or.inl ⟨ad, e, rfl⟩)
      go_wp2_with fail
      go_roundw
      case rel => exact ⟨t + 1, by omega, by go_num, by rw [show k + ((t + 1 : Nat) : Int) = k + t + 1 by omega]; exact HN.out.1, HN2.out⟩
      case measure => simp [intOf]; omega
    · obtain rfl : t = c := by omega
      have HR : Hid (Rf B wr g m s (k + t) A ao cap ∧ Kp w wr g ao) := H
      by_cases d1 : s + (k + t) < n
      · have d2 : ¬ (s + (k + t) < s + A.length) := by have := HC.out; omega
        go_wp2_with fail
        refine (rfirst_any _ H.out.1 HD1.out).mono ?_
        rintro e w1 ⟨rfl, n1, hw1⟩
        have H1 : Hid (Rf B w1 g m s (k + t) A ao cap ∧ Kp w w1 g ao) := by rw [hw1]; exact ⟨H.out.1.drewN n1, Kp.trans H.out.2 (Kp.of (below_drewN _ n1)) (fun ad e => Or.inl ⟨ad, e, rfl⟩)⟩
        clear hw1 H HR
        go_wp2_with fail
        refine (rfirst_any _ H1.out.1 HD1.out).mono ?_
        rintro e w2 ⟨rfl, n2, hw2⟩
        have H2 : Hid (Rf B w2 g m s (k + t) A ao cap ∧ Kp w w2 g ao) := by rw [hw2]; exact ⟨H1.out.1.drewN n2, Kp.trans H1.out.2 (Kp.of (below_drewN _ n2)) (fun ad e => Or.inl ⟨ad, e, rfl⟩)⟩
        clear hw2 H1
        go_wp2_with fail
        refine (rnext_any _ H2.out.1 HD1.out).mono ?_
        rintro e w3 ⟨rfl, n3, hw3⟩
        have H3 : Hid (Rf B w3 g m s (k + t) A ao cap ∧ Kp w w3 g ao) := by rw [hw3]; exact ⟨H2.out.1.drewN n3, Kp.trans H2.out.2 (Kp.of (below_drewN _ n3)) (fun ad e => Or.inl ⟨ad, e, rfl⟩)⟩
        clear hw3 H2
        go_wp2_with fail
        go_ret
        exact ⟨rfl, H3.out⟩
      · go_wp2_with fail
        refine (rfirst_any _ H.out.1 HD1.out).mono ?_
        rintro e w1 ⟨rfl, n1, hw1⟩
        have H1 : Hid (Rf B w1 g m s (k + t) A ao cap ∧ Kp w w1 g ao) := by rw [hw1]; exact ⟨H.out.1.drewN n1, Kp.trans H.out.2 (Kp.of (below_drewN _ n1)) (fun ad e => Or.inl ⟨ad, e, rfl⟩)⟩
        clear hw1 H HR
        go_wp2_with fail
        go_ret
        exact ⟨rfl, H1.out⟩
end Go.Proofs.Ytgnclfeicgbjpaa
