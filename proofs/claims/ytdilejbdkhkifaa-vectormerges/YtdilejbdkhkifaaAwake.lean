/- Merge of two; awake: their contracts. -/
import Derived.Test.YtdilejbdkhkifaaMerge
import Derived.Test.YtdilejbdkhkifaaFiLaw
namespace Go.Proofs.Ytdilejbdkhkifaa
open Go.RowKit

def pick2 {α : Type} (x y : α) : Nat → α := fun t => if t = 0 then x else y
theorem two_rows (ao bo : Option Addr) (n c m d : Nat) (X Y : List Int) (w : World) (hX : Src w ao n c X) (hY : Src w bo m d Y) (T : TypeId) :
    Rows (w.alloc (.cells #[.slice ao n c, .slice bo m d] T)) (some ⟨w.heap.size, 0, none⟩) 2 2 (pick2 ao bo) (pick2 n m) (pick2 c d) (pick2 X Y) := by
  have hb : Below w.heap.size w (w.alloc (.cells #[.slice ao n c, .slice bo m d] T)) := (Below.refl _ _).alloc (Nat.le_refl _) _
  refine ⟨fun h => (by cases h), fun ad h t ht => ?_, fun t ht => ?_⟩
  · obtain rfl := Option.some.inj h
    rw [Addr.add_lit, Nat.zero_add, World.cell?_alloc_new]
    match t, ht with
    | 0, _ => rfl
    | 1, _ => rfl
  · match t, ht with
    | 0, _ => exact hX.below hb
    | 1, _ => exact hY.below hb
theorem fmax_zero (f : Nat → Int) (h : Bd f) : ∀ r, r < 16 → fmax (fun _ => 0) f r = f r := by
  intro r hr
  have := h r hr
  show (if (0 : Int) < f r then f r else 0) = f r
  split <;> omega
theorem merge2_any (ao bo : Option Addr) (n c m d : Nat) (X Y : List Int) (w : World) (g : Nat) (hg : w.heap.size = g) (hX : Src w ao n c X) (hY : Src w bo m d Y) :
    Calls Try.prog 26 #[.slice (some ⟨g, 0, none⟩) 2 2] (w.alloc (.cells #[.slice ao n c, .slice bo m d] 22)) fun e w' => Gives w w' e (short (fmax (at' X) (at' Y))) := by
  subst hg
  refine (merge_any _ 2 2 _ _ _ _ _ (two_rows ao bo n c m d X Y w hX hY 22) (by unfold maxLen; omega)).mono ?_
  intro e w' h
  have h2 := h.on ((Below.refl w.heap.size w).alloc (Nat.le_refl _) _)
  have e2 : short (mergeF (pick2 X Y) 2) = short (fmax (at' X) (at' Y)) := by
    refine short_congr (fun r hr => ?_)
    show fmax (fmax (fun _ => 0) (at' X)) (at' Y) r = fmax (at' X) (at' Y) r
    have := fmax_zero (at' X) (bd_at X) r hr
    show (if fmax (fun _ => 0) (at' X) r < at' Y r then _ else fmax (fun _ => 0) (at' X) r) = _
    rw [this]; rfl
  rw [e2] at h2
  exact h2

theorem ex_merge : short (fmax (at' [1, 5]) (at' [2, 3, 4])) = [2, 5, 4] := by decide +kernel
set_option maxHeartbeats 400000 in
theorem awake_any (w : World) : Calls Try.prog 9 #[] w fun e w' => e = .returned (.bool true) ∧ Below w.heap.size w w' := by
  go_enter Try.func9, Try.ntmps9
  go_wp2_with fail
  have X1 := lit_src w [1, 5] #[.int .i64 1, .int .i64 5] rfl 3 2 rfl
  have X2 := X1.below ((Below.refl _ _).alloc (Nat.le_refl _) (.cells #[.int .i64 2, .int .i64 3, .int .i64 4] 3))
  have Y2 := lit_src (w.alloc (.cells #[.int .i64 1, .int .i64 5] 3)) [2, 3, 4] #[.int .i64 2, .int .i64 3, .int .i64 4] rfl 3 3 rfl
  have hb := hide (((Below.refl w.heap.size w).alloc (Nat.le_refl _) (.cells #[.int .i64 1, .int .i64 5] 3)).alloc (by simp) (.cells #[.int .i64 2, .int .i64 3, .int .i64 4] 3))
  rw [World.size_alloc] at Y2
  have hz : ((w.alloc (.cells #[.int .i64 1, .int .i64 5] 3)).alloc (.cells #[.int .i64 2, .int .i64 3, .int .i64 4] 3)).heap.size = w.heap.size + 1 + 1 := by simp
  obtain ⟨w2, Hw2⟩ : ∃ w2, (w.alloc (.cells #[.int .i64 1, .int .i64 5] 3)).alloc (.cells #[.int .i64 2, .int .i64 3, .int .i64 4] 3) = w2 := ⟨_, rfl⟩
  rw [Hw2] at X2 Y2 hb hz ⊢
  clear X1 Hw2
  refine (merge2_any _ _ _ _ _ _ [1, 5] [2, 3, 4] w2 _ hz X2 Y2).mono ?_
  rintro e w3 ⟨ao2, n2, c2, rfl, S2, b2⟩
  rw [ex_merge] at S2
  have S := hide S2
  have B := hide (hb.out.trans (b2.mono hb.out.size))
  clear b2 S2 X2 Y2 hz
  go_wp2_with fail
  refine (equal_any ao2 _ n2 3 c2 3 [2, 5, 4] [2, 5, 4] _ (S.out.below ((Below.refl _ _).alloc (Nat.le_refl _) _)) (lit_src w3 [2, 5, 4] #[.int .i64 2, .int .i64 5, .int .i64 4] rfl 3 3 rfl) (by have h := S.out.1; unfold maxLen; simp at h; omega)).mono ?_
  rintro e w4 ⟨rfl, b4⟩
  have B4 := hide ((B.out.alloc B.out.size _).trans (b4.mono (by have := B.out.size; simp; omega)))
  clear b4
  go_wp2_with fail
  go_ret
  exact ⟨by simp, B4.out⟩
end Go.Proofs.Ytdilejbdkhkifaa
