/- isBool, match, plays at the kinds 6 and 12, GoodsMatches: the walks. -/
import Derived.Test.YtmnkejbmahmckaaGreatDoorMMat
import Derived.Test.YtmnkejbmahmckaaGreatDoorOnly
namespace Go.Proofs.YtmnkejbmahmckaaGreatDoor.M
open Go.RowKit

theorem isBool_any (b c : Bool) (e f : Int) (w : World) (h1 : b = c) (h2 : e = f) : Calls Tryz.prog 41 #[.bool b, .int .i64 e, .bool c, .int .i64 f] w fun x w' => x = .returned (.bool true) ∧ w' = w := by
  subst h1 h2
  cases b with
  | true =>
    go_enter Tryz.func41, Tryz.ntmps41
    go_wp2
    go_ret
    exact ⟨ret_bool (by simp), rfl⟩
  | false =>
    go_enter Tryz.func41, Tryz.ntmps41
    go_wp2
    go_ret
    exact ⟨ret_bool (by simp), rfl⟩
set_option maxHeartbeats 1600000 in
theorem matchL_any (a b : ByteArray) (w : World) (ha : a.size ≤ maxLen) (hb : b.size ≤ maxLen) :
    Calls Tryz.prog 22 #[.string a, .string b] w fun e w' => e = .returned (.bool true) ∧ Below w.heap.size w w' := by
  have HA := hide ha
  have HB := hide hb
  clear ha hb
  obtain ⟨x, Hx⟩ : ∃ x, Hid (maB a b = x) := ⟨_, rfl⟩
  obtain ⟨y, Hy⟩ : ∃ y, Hid (maE a b = y) := ⟨_, rfl⟩
  go_enter Tryz.func22, Tryz.ntmps22
  go_wp2_with fail
  refine (matchP_any a b _ HA.out HB.out).mono ?_
  rintro e w1 ⟨rfl, b1⟩
  rw [Hx.out, Hy.out]
  have B1 := hide b1
  clear b1
  go_wp2_with fail
  refine (refMatch_any a b _ HA.out HB.out).mono ?_
  rintro e w2 ⟨rfl, b2⟩
  rw [Hx.out, Hy.out]
  have B2 := hide (B1.out.trans (b2.mono B1.out.size))
  clear b2 B1
  go_wp2_with (go_at_call 41; refine (isBool_any _ _ _ _ _ rfl rfl).mono ?_; rintro e w3 ⟨rfl, rfl⟩)
  go_ret
  exact ⟨rfl, B2.out⟩
/-- what the box of a step keeps -/
structure BoxM (w W : World) (a b : ByteArray) : Prop where
  below : Below w.heap.size w W
  c1 : W.cell? ⟨w.heap.size, 1, none⟩ = some (.string a)
  c2 : W.cell? ⟨w.heap.size, 2, none⟩ = some (.string b)
theorem BoxM.on {w W W' : World} {a b : ByteArray} (h : BoxM w W a b) (hb : Below W.heap.size W W') : BoxM w W' a b :=
  ⟨h.below.trans (hb.mono h.below.size), (hb.cell (World.block_lt_of_cell? _ _ h.c1)).trans h.c1, (hb.cell (World.block_lt_of_cell? _ _ h.c2)).trans h.c2⟩
theorem BoxM.start (w : World) (k : Int) (a b : ByteArray) (n : Int) (v : Value) : BoxM w (w.alloc (.cells #[.int .i64 k, .string a, .string b, .int .i64 n, v] 34)) a b :=
  ⟨(Below.refl _ _).alloc (Nat.le_refl _) _, by simp, by simp⟩
set_option maxRecDepth 100000 in
set_option maxHeartbeats 3000000 in
theorem plays6 (a b : ByteArray) (n : Int) (lp : Option Addr) (ll lc : Nat) (w : World) (ha : a.size ≤ maxLen) (hb : b.size ≤ maxLen) :
    Calls Tryz.prog 12 #[.agg #[.int .i64 6, .string a, .string b, .int .i64 n, .slice lp ll lc]] w fun e w' => e = .returned (.bool true) ∧ Below w.heap.size w w' := by
  have T0 := hide (BoxM.start w 6 a b n (.slice lp ll lc))
  have HA := hide ha
  have HB := hide hb
  clear ha hb
  go_enter Tryz.func12, Tryz.ntmps12
  go_wp2_with fail
  obtain ⟨w0, Hw0⟩ : ∃ w0, w.alloc (.cells #[.int .i64 6, .string a, .string b, .int .i64 n, .slice lp ll lc] 34) = w0 := ⟨_, rfl⟩
  rw [Hw0] at T0 ⊢
  clear Hw0
  refine (matchL_any a b _ HA.out HB.out).mono ?_
  rintro e w1 ⟨rfl, b1⟩
  have T1 := hide (T0.out.on b1)
  clear b1 T0
  go_wp2_with fail
  go_ret
  exact ⟨rfl, T1.out.below⟩
set_option maxRecDepth 100000 in
set_option maxHeartbeats 3000000 in
theorem plays12 (a b : ByteArray) (n : Int) (lp : Option Addr) (ll lc : Nat) (w : World) (ha : a.size ≤ maxLen) (hb : b.size ≤ maxLen) :
    Calls Tryz.prog 12 #[.agg #[.int .i64 12, .string a, .string b, .int .i64 n, .slice lp ll lc]] w fun e w' => e = .returned (.bool true) ∧ Below w.heap.size w w' := by
  have T0 := hide (BoxM.start w 12 a b n (.slice lp ll lc))
  have HA := hide ha
  have HB := hide hb
  clear ha hb
  obtain ⟨w0, Hw0⟩ : ∃ w0, Hid (w.alloc (.cells #[.int .i64 12, .string a, .string b, .int .i64 n, .slice lp ll lc] 34) = w0) := ⟨_, rfl⟩
  rw [Hw0.out] at T0
  have k1 := T0.out.c1
  have k2 := T0.out.c2
  go_enter Tryz.func12, Tryz.ntmps12
  go_wp2_with fail
  rw [Hw0.out]
  refine (matchL_any a b _ HA.out HB.out).mono ?_
  rintro e w1 ⟨rfl, b1⟩
  have T1 := hide (T0.out.on b1)
  clear b1 T0 k1 k2
  have k2 := T1.out.c2
  go_wp2_with fail
  refine (matchL_any b b _ HB.out HB.out).mono ?_
  rintro e w2 ⟨rfl, b2⟩
  have T2 := hide (T1.out.on b2)
  clear b2 T1 k2
  go_wp2_with fail
  go_ret
  exact ⟨rfl, T2.out.below⟩
theorem ma_k (w : World) : Calls Tryz.prog 10 #[.string ⟨#[65, 42, 45, 35, 35]⟩, .string ⟨#[65, 88, 45, 49, 50]⟩] w fun e w' => e = .returned (.tuple #[.bool true, .int .i64 0]) ∧ Below w.heap.size w w' := by
  have h := matchP_any ⟨#[65, 42, 45, 35, 35]⟩ ⟨#[65, 88, 45, 49, 50]⟩ w (by unfold maxLen; have : (⟨#[65, 42, 45, 35, 35]⟩ : ByteArray).size = 5 := rfl; omega) (by unfold maxLen; have : (⟨#[65, 88, 45, 49, 50]⟩ : ByteArray).size = 5 := rfl; omega)
  have e1 : maB ⟨#[65, 42, 45, 35, 35]⟩ ⟨#[65, 88, 45, 49, 50]⟩ = true := by decide +kernel
  have e2 : maE ⟨#[65, 42, 45, 35, 35]⟩ ⟨#[65, 88, 45, 49, 50]⟩ = 0 := by decide +kernel
  rw [e1, e2] at h
  exact h
set_option maxRecDepth 100000 in
set_option maxHeartbeats 3000000 in
theorem matches_law (ao : Option Addr) (len cap : Nat) (w : World) (hl : len ≤ cap) (hc : cap ≤ maxLen) (hst : ∀ i, i < len → ∃ p o, ao = some p ∧ StepAt w p i o) :
    Calls Tryz.prog 5 #[.slice ao len cap] w fun e w' => e = .returned (.bool true) ∧ Below w.heap.size w w' := by
  have HST := hide hst
  have HL := hide hl
  have HC := hide hc
  clear hst hl hc
  go_enter Tryz.func5, Tryz.ntmps5
  go_wp2_with fail
  refine (ma_k _).mono ?_
  rintro e w1 ⟨rfl, b1⟩
  have HS1 : Hid (∀ i, i < len → ∃ p o, ao = some p ∧ StepAt (w1.alloc (.cells #[.int .i64 6, .int .i64 12] 3)) p i o) := fun i hi => by
    obtain ⟨p, o, e, S⟩ := HST.out i hi
    exact ⟨p, o, e, (S.on b1).on ((Below.refl _ _).alloc (Nat.le_refl _) _)⟩
  have HK : Hid (∀ j, j < 2 → (w1.alloc (.cells #[.int .i64 6, .int .i64 12] 3)).cell? ⟨w1.heap.size, j, none⟩ = some (.int .i64 (([6, 12] : List Int).getD j 0))) := by
    intro j hj
    match j, hj with
    | 0, _ => simp
    | 1, _ => simp
  have HB : Hid (Below w.heap.size w (w1.alloc (.cells #[.int .i64 6, .int .i64 12] 3))) := b1.alloc b1.size _
  have HP : Hid (∀ i p o W, i < len → ao = some p → StepAt (w1.alloc (.cells #[.int .i64 6, .int .i64 12] 3)) p i o → Below (w1.alloc (.cells #[.int .i64 6, .int .i64 12] 3)).heap.size (w1.alloc (.cells #[.int .i64 6, .int .i64 12] 3)) W → o.kind ∈ ([6, 12] : List Int) → Calls Tryz.prog 12 #[.agg #[.int .i64 o.kind, .string o.a, .string o.b, .int .i64 o.n, .slice o.lp o.ll o.lc]] W fun e w' => e = .returned (.bool true) ∧ Below W.heap.size W w') := by
    intro i p o W _ _ S _ hk
    have ha := S.ha
    have hb := S.hb
    obtain ⟨k, a, b, n, lp, ll, lc⟩ := o
    simp only [List.mem_cons, List.not_mem_nil, or_false] at hk
    rcases hk with rfl | rfl
    · exact plays6 a b n lp ll lc W ha hb
    · exact plays12 a b n lp ll lc W ha hb
  clear b1
  go_wp2_with fail
  refine (only_any ao len cap w1.heap.size 2 [6, 12] _ HL.out HC.out (by omega) HS1.out rfl HK.out HP.out).mono ?_
  rintro e w2 ⟨rfl, b2⟩
  have HBE : Hid (Below w.heap.size w w2) := HB.out.trans (b2.mono HB.out.size)
  go_wp2
  go_ret
  exact ⟨rfl, HBE.out⟩
end Go.Proofs.YtmnkejbmahmckaaGreatDoor.M
