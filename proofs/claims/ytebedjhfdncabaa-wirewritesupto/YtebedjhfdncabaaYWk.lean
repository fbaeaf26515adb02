/- WireWrites: the beginning. -/
import Derived.Test.YtebedjhfdncabaaYWj
namespace Go.Proofs.Ytebedjhfdncabaa
open Go.RowKit
variable {w w' w2 w0 : World} {g : Nat} {col : Nat → Nat} {s : Ws} {lim : Nat}

theorem new_at (w : World) (q : Nat) (hq : w.heap.size = q) : Calls Try.prog 4 #[] w fun r w' => r = .returned (ptr q) ∧ Wr w' q none 0 0 [] false ∧ Below w.heap.size w w' ∧ w'.heap.size = q + 1 := by
  subst hq
  refine (new_any w).mono ?_
  rintro r w' ⟨rfl, rfl⟩
  exact ⟨rfl, wr_new w, below_new w _, by simp⟩
theorem e300 : strOfNums (numB 300) = ⟨#[172, 2]⟩ := by
  rw [numB_ge (by omega), numB_lt (by omega)]
  rfl
theorem n300 : numB 300 = [172, 2] := by
  rw [numB_ge (by omega), numB_lt (by omega)]
  rfl
/-- the bytes of a constant: the row has the mark of one place behind it -/
theorem BQ.lit2 (w : World) (x y : Int) (f : Nat × Nat) : BQ (w.alloc (.cells #[.int .u8 x, .int .u8 y] 5 f)) (some ⟨w.heap.size, 0, none⟩) 2 2 [x, y] := by
  have hh : (w.alloc (.cells #[.int .u8 x, .int .u8 y] 5 f)).heap[w.heap.size]? = some (.cells #[.int .u8 x, .int .u8 y] 5 f) := heap_alloc_new w _
  refine Or.inr ⟨rfl, _, rfl, ⟨rfl, (fun h => by cases h), fun ad ha t ht => ?_⟩, by simp⟩
  obtain rfl := Option.some.inj ha
  rw [Addr.add_lit, Nat.zero_add]
  match t, ht with
  | 0, _ => unfold World.cell?; rw [hh]; rfl
  | 1, _ => unfold World.cell?; rw [hh]; rfl
/-- the owners at the beginning -/
def col0 (q s6 s7 : Nat) : Nat → Nat := fun b => if b < q then 13 else if b < q + 4 then b - q else if b < q + 5 then 8 else if b < s6 then 0 else if b < s7 then 14 else if b < s7 + 1 then 4 else if b < s7 + 2 then 9 else 10
def ws0 (q s7 : Nat) : Ws := ⟨q + 4, s7 + 1, s7 + 2, fun k => q + k, fun _ => false, fun k => if k = 0 then [172, 2] else [], fun _ => false, fun k => if k = 0 then .slice (some ⟨s7, 0, none⟩) 2 2 else .slice none 0 0, fun k => if k = 0 then [172, 2] else [], .slice none 0 0, [], .slice none 0 0, []⟩
theorem WI.start {q s6 s7 : Nat} {w5 w6 w7 w8 w9 wA : World} (hq : w0.heap.size = q) (W : ∀ k, k < 4 → Wr w5 (q + k) none 0 0 [] false) (P : Bx4 w5 (q + 4) 25 (fun k => ptr (q + k))) (b5 : Below w0.heap.size w0 w5) (z5 : w5.heap.size = q + 5)
    {bo : Option Addr} {m cc : Nat} (W6 : Wr w6 q bo m cc (numB 300) false) (K6 : Kp w5 w6 q none bo) (z6 : w6.heap.size = s6) (b7 : Below w6.heap.size w6 w7) (z7 : w7.heap.size = s7)
    (h8 : w8 = w7.alloc (.cells #[.int .u8 172, .int .u8 2] 5 (2, 3))) (P9 : Bx4 w9 (s7 + 1) 31 (ws0 q s7).uv) (b9 : Below w8.heap.size w8 w9) (z9 : w9.heap.size = w8.heap.size + 1)
    (PA : Bx4 wA (s7 + 2) 32 (fun _ => .bool false)) (bA : Below w9.heap.size w9 wA) : WI w0 wA (col0 q s6 s7) (ws0 q s7) 2 ∧ Rel (ws0 q s7) := by
  have y6 := K6.size
  have y7 := b7.size
  have z8 : w8.heap.size = s7 + 1 := by rw [h8]; simp [z7]
  have yA := bA.size
  have B8 := BQ.lit2 w7 172 2 (2, 3)
  rw [← h8, z7] at B8
  have b8 : Below w7.heap.size w7 w8 := by rw [h8]; exact below_new w7 _
  have b6A : Below w6.heap.size w6 wA := b7.trans ((b8.trans ((b9.trans (bA.mono (by omega))).mono (by omega))).mono (by omega))
  have b8A : Below w8.heap.size w8 wA := b9.trans (bA.mono (by omega))
  have old : ∀ b, b < q + 5 → b ≠ q → wA.heap[b]? = w5.heap[b]? := fun b hb hne => (b6A.block b (by omega)).trans (K6.block b (by omega) hne (fun e => by cases e))
  refine ⟨⟨(old (q + 4) (by omega) (by omega)).trans P, (bA.block (s7 + 1) (by omega)).trans P9, PA, fun k hk => ?_, fun k hk => ?_, ⟨World.ownsRow_nil _ _ _ _, fun b e => by cases e⟩, ⟨World.ownsRow_nil _ _ _ _, fun b e => by cases e⟩, fun j v Z h1 _ => by simp [ws0] at h1, ?_, ?_, ?_, fun b hb => ?_, ?_⟩, ⟨fun k _ => ⟨rfl, fun _ => rfl⟩, rfl⟩⟩
  · show WK wA _ k (q + k) false (if k = 0 then [172, 2] else []) 2
    by_cases e : k = 0
    · subst e
      rw [if_pos rfl]
      rw [n300] at W6
      refine ⟨⟨bo, m, cc, W6.below b6A, (fun h => by cases h), fun b eb => ?_⟩, by simp [col0], by simp⟩
      have hl := W6.row.lt b eb
      rcases K6.lies with x | x | ⟨j, x, hj⟩
      · rw [x] at eb; cases eb
      · rw [x] at eb; cases eb
      · rw [x] at eb
        have := Option.some.inj eb
        unfold col0
        rw [if_neg (by omega), if_neg (by omega), if_neg (by omega), if_pos (by omega)]
    · rw [if_neg e]
      have Wk := W k hk
      exact ⟨⟨none, 0, 0, ⟨(old (q + k) (by omega) (by omega)).trans Wk.box, BR.nil _, Wk.ne, Wk.nil⟩, fun _ => rfl, fun b eb => by cases eb⟩, by unfold col0; rw [if_neg (by omega), if_pos (by omega)]; omega, Nat.zero_le _⟩
  · show UK wA _ (4 + k) (if k = 0 then .slice (some ⟨s7, 0, none⟩) 2 2 else .slice none 0 0) (if k = 0 then [172, 2] else []) ∧ (if k = 0 then [172, 2] else [] : List Int).length ≤ 2
    by_cases e : k = 0
    · subst e
      rw [if_pos rfl, if_pos rfl]
      refine ⟨⟨_, _, _, rfl, B8.keep b8A.size (fun k hk => b8A.block k (B8.lt k hk)), fun b eb => ?_⟩, by simp⟩
      have : s7 = b := Option.some.inj eb
      subst this
      unfold col0
      rw [if_neg (by omega), if_neg (by omega), if_neg (by omega), if_neg (by omega), if_neg (by omega), if_pos (by omega)]
    · rw [if_neg e, if_neg e]
      exact ⟨UK.nil _, Nat.zero_le _⟩
  · show col0 q s6 s7 (q + 4) = 8
    unfold col0
    rw [if_neg (by omega), if_neg (by omega), if_pos (by omega)]
  · show col0 q s6 s7 (s7 + 1) = 9
    unfold col0
    rw [if_neg (by omega), if_neg (by omega), if_neg (by omega), if_neg (by omega), if_neg (by omega), if_neg (by omega), if_pos (by omega)]
  · show col0 q s6 s7 (s7 + 2) = 10
    unfold col0
    rw [if_neg (by omega), if_neg (by omega), if_neg (by omega), if_neg (by omega), if_neg (by omega), if_neg (by omega), if_neg (by omega)]
  · unfold col0
    rw [if_pos (by omega)]
  · have h56 : Below w0.heap.size w0 w6 := ⟨K6.os.trans b5.os, K6.tape.trans b5.tape, K6.output.trans b5.output, by omega, fun b hb => (K6.block b (by omega) (by omega) (fun e => by cases e)).trans (b5.block b hb)⟩
    exact h56.trans (b6A.mono h56.size)
end Go.Proofs.Ytebedjhfdncabaa
