/- A row of numbers that the call itself grows by append; the reference's Short: its contract. -/
import Derived.Test.YtmmgbcmcjakdoaaWFu
import Derived.Laws.AppendOwnNone
import Derived.OwnWalk
namespace Go.Proofs.Ytmmgbcmcjakdoaa
open Go.RowKit V
attribute [local go_sem ↓] ld55_eq st55_eq
attribute [local go_sem] zeros_VC cells_VA

/-- the slice (ao, its length, cap) owns just these numbers, in blocks from B on; below B0 all is as it was -/
structure Own (B0 B : Nat) (w w' : World) (ao : Option Addr) (cap : Nat) (acc : List Int) : Prop where
  own : w'.ownsRow B 3 1 (.slice ao acc.length cap) acc.length (acc.map (Value.int .i64))
  below : Below B0 w w'
  hB : B ≤ w'.heap.size
  hB0 : B0 ≤ B
theorem Own.nil {B0 B : Nat} {w w' : World} (hb : Below B0 w w') (hB : B ≤ w'.heap.size) (h0 : B0 ≤ B) : Own B0 B w w' none 0 [] :=
  ⟨World.ownsRow_nil _ _ _ _, hb, hB, h0⟩
theorem Own.append {B0 B : Nat} {w w' : World} {ao : Option Addr} {cap : Nat} {acc : List Int} (O : Own B0 B w w' ao cap acc) (z : Int) (hlen : acc.length ≤ 100000)
    {ops : Array Oper} {rest : List Oper} {o : Oper} {a : Act} {Q : Exit → Act → World → Prop} (hgd : o.guard = none) (s x : Operand) (ho : o.op = .call { callee := .builtin .append, args := #[s, x], argTypes := #[24, 24] })
    (n : Nat) (hn : acc.length = n) (hs : a.eval s = .slice ao n cap) (g0 : Nat) (hg0 : w'.heap.size = g0) (hx : a.eval x = .slice (some ⟨g0, 0, none⟩) 1 1)
    (hK : ∀ (g cap2 : Nat) (w2 : World), Own B0 B w w2 (some ⟨g, 0, none⟩) cap2 (acc ++ [z]) → (∀ k, k < B → w2.heap[k]? = w'.heap[k]?) → wpList Try.prog ops Q rest (a.put o.dst (.slice (some ⟨g, 0, none⟩) (n + 1) cap2)) w2) :
    wpList Try.prog ops Q (o :: rest) a (w'.alloc (.cells #[.int .i64 z] 3)) := by
  subst hn hg0
  obtain ⟨i0, hi, hz0, hz1, hz2⟩ := info_parts info3
  have hB := O.hB
  have hB0 := O.hB0
  refine wpList_append_own _ hgd s x 24 ho B 3 i0 (.int .i64 0) 1 8 Try.underlying24 hi hz0 hz1 hz2 rfl (by decide) _ acc.length (acc.map (Value.int .i64)) hs (O.own.alloc _) ⟨w'.heap.size, 0, none⟩ 1 1 [.int .i64 z] hx (by simp) ?_ ?_ (by unfold maxLen; omega) (by omega) (by simp; omega) ?_
  · intro j u hj
    rw [Addr.add_lit, Nat.zero_add, World.cell?_alloc_new]
    simpa using hj
  · intro u hu
    simp only [List.mem_singleton] at hu
    subst hu
    rfl
  · intro v' w2 hown hgrow _
    rcases hown.2 with ⟨h0, h00⟩ | ⟨g, cap2, cur, hv, hbg, hgg, hnc, hcm, hcsz, htake⟩
    · omega
    · subst hv
      have hrow : ∀ k, (Value.slice ao acc.length cap).ownBlock = some k → B ≤ k := fun k hk => (O.own.lt k hk).1
      have hsz := hgrow.size
      rw [World.size_alloc] at hsz
      refine hK g cap2 w2 ⟨?_, (O.below.alloc (by omega) _).grown hgrow (by simp; omega) (fun k hk => by have := hrow k hk; omega), by omega, hB0⟩ (fun k hk => ?_)
      · rw [List.length_append, List.map_append]; exact hown
      · rw [hgrow.block k (by simp; omega) (fun e => by have := hrow k e.symm; omega)]
        exact Below.heap_alloc _ _ _ (by omega)
theorem Own.src {B0 B : Nat} {w w' : World} {ao : Option Addr} {cap : Nat} {acc : List Int} (O : Own B0 B w w' ao cap acc) : Src w' ao acc.length cap acc := by
  rcases O.own.2 with ⟨h0, h00⟩ | ⟨g, cap2, cur, hv, hbg, hgg, hnc, hcm, hcsz, htake⟩
  · simp only [Value.slice.injEq] at h0
    obtain ⟨rfl, e0, rfl⟩ := h0
    refine ⟨rfl, fun _ => ⟨h00, rfl⟩, fun ad h => by cases h⟩
  · simp only [Value.slice.injEq, true_and] at hv
    obtain ⟨rfl, rfl⟩ := hv
    refine ⟨rfl, fun h => (by cases h), fun ad h t ht => ?_⟩
    obtain rfl := Option.some.inj h
    rw [Addr.add_lit, Nat.zero_add, O.own.cellAt t (by omega)]
    simp [List.getD, ht]

theorem Own.new {B0 B : Nat} {w w' : World} {ao : Option Addr} {cap : Nat} {acc : List Int} (O : Own B0 B w w' ao cap acc) : ∀ ad, ao = some ad → B ≤ ad.block := by
  intro ad h
  rcases O.own.2 with ⟨h0, h00⟩ | ⟨g, cap2, cur, hv, hbg, hgg, hnc, hcm, hcsz, htake⟩
  · simp only [Value.slice.injEq] at h0
    rw [h0.1] at h; cases h
  · simp only [Value.slice.injEq, true_and] at hv
    rw [hv.1] at h
    obtain rfl := Option.some.inj h
    exact hbg

theorem map_snoc (f : Nat → Int) (k : Nat) : (List.range (k + 1)).map f = (List.range k).map f ++ [f k] := by
  rw [List.range_succ, List.map_append]; rfl

set_option maxHeartbeats 1600000 in
theorem short_new (f : Nat → Int) (w : World) : Calls Try.prog 32 #[VA f] w fun e w' => GivesN w w' e (short f) := by
  go_enter Try.func32, Try.ntmps32
  go_wp2
  go_loopw [3] (fun i wr => ∃ k : Nat, k ≤ 16 ∧ i = .int .i64 k ∧ Hid (topN f k = top f) ∧ Hid (Arr wr w.heap.size 41 f) ∧ Hid (wr.heap.size = w.heap.size + 1) ∧ Hid (Below w.heap.size w wr)) (fun i _ => (intOf i).toNat)
  case atStart => exact ⟨16, Nat.le_refl _, rfl, rfl, arr_new w 41 f, by show _ = _; simp, (Below.refl _ _).alloc (Nat.le_refl _) _⟩
  case round =>
    obtain ⟨k, hk, rfl, HT, A, HZ, HB⟩ := hrel
    cases k with
    | zero =>
      have ht : Hid (short f = []) := by show _ = _; unfold short; rw [← HT.out]; rfl
      go_wp2
      go_loopw [4, 5] (fun v i wx => v = .slice none 0 0 ∧ i = .int .i64 0 ∧ wx = wr) (fun _ _ _ => 0)
      case atStart => exact ⟨rfl, rfl, rfl⟩
      case round =>
        obtain ⟨rfl, rfl, rfl⟩ := hrel
        go_wp2
        go_ret
        exact ⟨none, 0, 0, rfl, by rw [ht.out]; exact ⟨rfl, fun _ => ⟨rfl, rfl⟩, fun ad h => by cases h⟩, HB.out, fun ad h => by cases h⟩
    | succ k =>
      have c1 := A.out.cell k (by omega)
      obtain ⟨z, Hz⟩ : ∃ z, Hid (f k = z) := ⟨_, rfl⟩
      rw [Hz.out] at c1
      by_cases h0 : z = 0
      · subst h0
        have HN : Hid (topN f k = top f) := by show _ = _; rw [← HT.out]; conv => rhs; unfold topN; rw [if_pos Hz.out]
        go_wp2
        go_roundw
        case rel => exact ⟨k, by omega, by go_num, HN, A, HZ, HB⟩
        case measure => simp [intOf]
      · have ht : Hid (k + 1 = top f) := by show _ = _; rw [← HT.out]; unfold topN; rw [Hz.out, if_neg h0]
        have h0' : (z == 0) = false := by simpa using h0
        clear h0
        rw [show ((k + 1 : Nat) : Int) = (k : Int) + 1 from rfl]
        go_wp2
        go_loopw [4, 5] (fun v i wx => ∃ (j : Nat) (ao : Option Addr) (cp : Nat), j ≤ k + 1 ∧ i = .int .i64 j ∧ v = .slice ao j cp ∧ Hid (Arr wx w.heap.size 41 f) ∧ Hid (Own w.heap.size (w.heap.size + 1) w wx ao cp ((List.range j).map f))) (fun _ i _ => k + 1 - (intOf i).toNat)
        case atStart => exact ⟨0, none, 0, Nat.zero_le _, rfl, rfl, A, Own.nil HB.out (by rw [HZ.out]; exact Nat.le_refl _) (by omega)⟩
        case round =>
          obtain ⟨j, ao, cp, hj, rfl, rfl, AX, O⟩ := hrel
          by_cases hlt : j < k + 1
          · have cj := AX.out.cell j (by omega)
            have hl : ((List.range j).map f).length = j := by simp
            go_wp2_with (at_builtin; refine O.out.append (f j) (by rw [hl]; omega) rfl (.tmp 22) (.tmp 26) rfl j hl rfl _ rfl rfl ?_; intro g3 c3 w3 O3 hk3)
            go_roundw
            case rel => exact ⟨j + 1, some ⟨g3, 0, none⟩, c3, by omega, by go_num, rfl, (hk3 _ (by omega)).trans AX.out, by rw [map_snoc]; exact O3⟩
            case measure => simp [intOf]; omega
          · obtain rfl : j = k + 1 := by omega
            have SS := hide O.out.src
            go_wp2
            go_ret
            refine ⟨_, _, _, rfl, ?_, O.out.below, fun ad h => by have := O.out.new ad h; omega⟩
            have h := SS.out
            unfold short
            rw [← ht.out]
            simpa using h
theorem short_any (f : Nat → Int) (w : World) : Calls Try.prog 32 #[VA f] w fun e w' => Gives w w' e (short f) := (short_new f w).mono fun _ _ h => h.gives
end Go.Proofs.Ytmmgbcmcjakdoaa
