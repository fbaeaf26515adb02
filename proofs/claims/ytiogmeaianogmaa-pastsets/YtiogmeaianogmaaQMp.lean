/- Two sorted lists of numbers are merged, plain. -/
import Derived.Test.YtiogmeaianogmaaQTp
namespace Go.Proofs.Ytiogmeaianogmaa

/-- acc: what was taken so far -/
structure MI (A B acc : List Int) (i j : Nat) : Prop where
  p : acc.Perm (A.take i ++ B.take j)
  s : acc.Pairwise (· ≤ ·)
  l : ∀ x, x ∈ acc → ∀ y, y ∈ A.drop i ++ B.drop j → x ≤ y
theorem MI.start (A B : List Int) : MI A B [] 0 0 := ⟨by simp, List.Pairwise.nil, fun x hx => by cases hx⟩
theorem pw_snoc {acc : List Int} {x : Int} (h : acc.Pairwise (· ≤ ·)) (hx : ∀ y, y ∈ acc → y ≤ x) : (acc ++ [x]).Pairwise (· ≤ ·) :=
  List.pairwise_append.2 ⟨h, List.pairwise_singleton _ _, fun a ha b hb => by obtain rfl := List.mem_singleton.1 hb; exact hx a ha⟩
theorem MI.left {A B acc : List Int} {i j : Nat} (M : MI A B acc i j) (sA : A.Pairwise (· ≤ ·)) (sB : B.Pairwise (· ≤ ·)) {x : Int} (hx : A[i]? = some x) (h : ∀ y, B[j]? = some y → x ≤ y) : MI A B (acc ++ [x]) (i + 1) j := by
  obtain ⟨t1, t2⟩ := take_on' A i x hx
  have hxd : x ∈ A.drop i ++ B.drop j := List.mem_append_left _ (by rw [t2]; exact List.mem_cons_self)
  have hle : ∀ y, y ∈ A.drop (i + 1) ++ B.drop j → x ≤ y := fun y hy => by
    rcases List.mem_append.1 hy with g | g
    · exact sorted_drop sA hx y (by rw [t2]; exact List.mem_cons_of_mem _ g)
    · cases hb : B[j]? with
      | none => rw [List.drop_of_length_le (by simpa using hb)] at g; cases g
      | some b => exact Int.le_trans (h b hb) (sorted_drop sB hb y g)
  refine ⟨?_, pw_snoc M.s (fun y hy => M.l y hy x hxd), fun z hz y hy => ?_⟩
  · rw [t1, List.append_assoc]
    refine ((M.p.append_right [x]).trans ?_)
    rw [List.append_assoc]
    exact List.Perm.append_left _ List.perm_append_comm
  · rcases List.mem_append.1 hz with g | g
    · exact Int.le_trans (M.l z g x hxd) (hle y hy)
    · obtain rfl := List.mem_singleton.1 g
      exact hle y hy
theorem MI.right {A B acc : List Int} {i j : Nat} (M : MI A B acc i j) (sA : A.Pairwise (· ≤ ·)) (sB : B.Pairwise (· ≤ ·)) {y : Int} (hy : B[j]? = some y) (h : ∀ x, A[i]? = some x → y ≤ x) : MI A B (acc ++ [y]) i (j + 1) := by
  obtain ⟨t1, t2⟩ := take_on' B j y hy
  have hyd : y ∈ A.drop i ++ B.drop j := List.mem_append_right _ (by rw [t2]; exact List.mem_cons_self)
  have hle : ∀ z, z ∈ A.drop i ++ B.drop (j + 1) → y ≤ z := fun z hz => by
    rcases List.mem_append.1 hz with g | g
    · cases ha : A[i]? with
      | none => rw [List.drop_of_length_le (by simpa using ha)] at g; cases g
      | some a => exact Int.le_trans (h a ha) (sorted_drop sA ha z g)
    · exact sorted_drop sB hy z (by rw [t2]; exact List.mem_cons_of_mem _ g)
  refine ⟨?_, pw_snoc M.s (fun z hz => M.l z hz y hyd), fun x hx z hz => ?_⟩
  · rw [t1, ← List.append_assoc]
    exact M.p.append_right [y]
  · rcases List.mem_append.1 hx with g | g
    · exact Int.le_trans (M.l x g y hyd) (hle z hz)
    · obtain rfl := List.mem_singleton.1 g
      exact hle z hz
theorem MI.done {A B acc L : List Int} {k : Nat} (M : MI A B acc A.length B.length) (pA : A.Perm (L.take k)) (pB : B.Perm (L.drop k)) : acc.Perm L := by
  have := M.p
  rw [List.take_length, List.take_length] at this
  refine this.trans ((pA.append pB).trans ?_)
  rw [List.take_append_drop]
theorem small_sorted {L : List Int} (h : L.length < 2) : L.Pairwise (· ≤ ·) := by
  match L, h with
  | [], _ => exact List.Pairwise.nil
  | [x], _ => exact List.pairwise_singleton _ _
theorem getD_some (L : List Int) (i : Nat) (h : i < L.length) : L[i]? = some (L.getD i 0) := by simp [List.getD, h]
end Go.Proofs.Ytiogmeaianogmaa
