/- The pool's Waiting: the keys of its map, sorted. -/
import Derived.Test.YthagachlilnjpaaLix
import Derived.Test.YthagachlilnjpaaXSt
namespace Go.Proofs.Ythagachlilnjpaa
open Go.RowKit Go.Maps Go.Sort Go.Shelf
variable {w w' : World} {g mb made K : Nat} {M : Int → Option Ltr} {C : Int → List Int}

/-- the numbers under way -/
def wl (M : Int → Option Ltr) (made : Nat) : List Int := ((List.range made).map fun i : Nat => (i : Int) + 1).filter fun x => (M x).isSome
theorem wl_rises (M : Int → Option Ltr) (made : Nat) : (wl M made).Pairwise (· < ·) := by
  refine List.Pairwise.filter _ (List.pairwise_map.2 ?_)
  exact List.pairwise_lt_range.imp (fun {a b} h => by omega)
theorem mem_wl {x : Int} : x ∈ wl M made ↔ (1 ≤ x ∧ x ≤ (made : Int)) ∧ (M x).isSome = true := by
  unfold wl
  rw [List.mem_filter, List.mem_map]
  constructor
  · rintro ⟨⟨i, hi, rfl⟩, h⟩
    rw [List.mem_range] at hi
    exact ⟨⟨by omega, by omega⟩, h⟩
  · rintro ⟨⟨h1, h2⟩, h⟩
    exact ⟨⟨(x - 1).toNat, List.mem_range.2 (by omega), (by omega : (((x - 1).toNat : Nat) : Int) + 1 = x)⟩, h⟩
theorem Pl.mem_wl (P : Pl w g mb made K M C) {x : Int} : x ∈ wl M made ↔ (M x).isSome = true := by
  rw [Ythagachlilnjpaa.mem_wl]
  refine ⟨fun h => h.2, fun h => ⟨?_, h⟩⟩
  obtain ⟨l, hl⟩ := Option.isSome_iff_exists.1 h
  exact P.dom x l hl
theorem wl_sorted (M : Int → Option Ltr) (made : Nat) {ss : List Int} (h : ss.Perm (wl M made)) : ss.mergeSort (fun x y => decide (x ≤ y)) = wl M made := by
  have e := mergeSort_of_perm_i h
  refine e.trans (List.mergeSort_of_pairwise ((wl_rises M made).imp (fun {a b} h => ?_)))
  simp only [leI, decide_eq_true_eq]
  omega
theorem sorts_in (m : Nat) : AnyZI.SortsIn Try.prog Try.sortedM_ren Fence.wide m :=
  ⟨fun blk off cap ss W hH hblk hsz => callsIn_wide.2 (AnyM.slices_Sort_int Try.sortM blk off cap ss W hH hblk hsz),
   fun p cap W => callsIn_wide.2 (AnyM.slices_Sort_int_none Try.sortM p cap W)⟩
theorem keys_any (mb : Option Nat) (W : World) : Calls Try.prog 30 #[.map mb] W fun e w' => e = .returned (.func (.func 34) #[] #[.pointer (some ⟨W.heap.size, 0, none⟩)]) ∧ w' = W.alloc (.cells #[.map mb] 59) :=
  (callsIn_wide (n := 5)).1 (AnyZI.keys_in Try.keysM Fence.wide 5 trivial rfl mb W)
set_option maxHeartbeats 1000000 in
theorem sortedKeys_any {H : Type} (b nn : Nat) (D0 : DataW H) (R : Value → Option (DataW H × List MemPlace)) (w : World) (hown : w.ownsMap Try.prog 3 R b nn D0) (hmax : Maps.size D0 ≤ maxLen) (hbytes : Maps.size D0 * 8 ≤ 140737488355328) :
    Calls Try.prog 29 #[.func (.func 34) #[] #[.pointer (some ⟨w.heap.size, 0, none⟩)]] (w.alloc (.cells #[.map (some b)] 59)) fun e w' => ∃ (v : Value) (ss : List Int), e = .returned v ∧ ss.Perm (intKeys D0) ∧
      w'.ownsRow w.heap.size 3 1 v ss.length ((ss.mergeSort (fun x y => decide (x ≤ y))).map encZ) ∧ Below w.heap.size w w' := by
  have hbl := hown.lt
  have hseq : SeqGives Fence.wide 2 Try.prog 34 #[.pointer (some ⟨w.heap.size, 0, none⟩)] encZ (fun ss => ss.Perm (intKeys D0)) (Maps.size D0) (w.alloc (.cells #[.map (some b)] 59)) :=
    AnyZI.keys_gives (ρ := Try.keysM_ren) { Try.keysM with } Fence.wide _ trivial rfl (by omega) w.heap.size b nn D0 _ (by simp) (by simp) (by
      obtain ⟨es, clock, hb, Ft, hs, hD⟩ := hown
      exact ⟨es, clock, (Below.heap_alloc _ _ b hbl).trans hb, Ft, hs, hD⟩)
  have h := AnyZI.sorted_in Try.sortedM Fence.wide 5 trivial trivial trivial trivial rfl (by omega) (sorts_in _) (enters_of Try.func33 (by kernel_rfl) rfl) 34 #[.pointer (some ⟨w.heap.size, 0, none⟩)] trivial (enters_of Try.func34 (by kernel_rfl) rfl) _ _ hmax hbytes _ hseq
  refine ((callsIn_wide (n := 5)).1 h).mono ?_
  rintro e w' ⟨v, ss, rfl, hS, hrow, _, hb⟩
  exact ⟨v, ss, rfl, hS, ownsRow_base_a hrow (by simp), (below_new w _).trans (hb.mono (by simp))⟩
theorem Pl.wait_any (P : Pl w g mb made K M C) (hK : K * 8 ≤ 140737488355328) : Calls Try.prog 13 #[ptr g] w fun r w' => ∃ v, r = .returned v ∧ w'.ownsRow w.heap.size 3 1 v (wl M made).length ((wl M made).map (Value.int .i64)) ∧ Below w.heap.size w w' := by
  obtain ⟨D, hown, hM⟩ := P.map
  have hsz := hown.size_le
  have x1 := P.c1
  have HC := hide (sortedKeys_any mb K D RT w hown (by unfold maxLen; omega) (by omega))
  have HE : Hid (∀ ss : List Int, ss.Perm (intKeys D) → ss.mergeSort (fun x y => decide (x ≤ y)) = wl M made ∧ ss.length = (wl M made).length) := fun ss hp => by
    obtain ⟨es, hD, hpw, _⟩ := hown.entries lawI
    obtain ⟨es', hD', hko⟩ := hown.keysOf
    obtain rfl : es = es' := by rw [hD] at hD'; simpa using hD'
    subst hD
    have hq := perm_intKeys hpw (fun p hp => by obtain ⟨v, hv⟩ := hko p hp; obtain ⟨x, _, hx, _⟩ := Maps.keyOf_i64 Try.underlying3 hv; exact ⟨x, hx⟩) (ss := wl M made) ((wl_rises M made).imp (fun {a b} h e => by omega)) (fun x => by rw [P.mem_wl, hM.has])
    have h2 := hp.trans hq.symm
    exact ⟨wl_sorted M made h2, h2.length_eq⟩
  clear P hown hM hsz
  go_enter Try.func13, Try.ntmps13
  go_wp2_with fail
  refine (keys_any (some mb) w).mono ?_
  rintro r w1 ⟨rfl, rfl⟩
  go_wp2_with fail
  refine HC.out.mono ?_
  rintro r w2 ⟨v, ss, rfl, hS, hrow, hb⟩
  obtain ⟨e1, e2⟩ := HE.out ss hS
  rw [e1, e2] at hrow
  have HR := hide (And.intro hrow hb)
  clear hrow hb hS e1 e2
  go_wp2_with fail
  go_ret
  exact ⟨v, rfl, HR.out.1, HR.out.2⟩
end Go.Proofs.Ythagachlilnjpaa
