/- slices.Concat of any number of lists of runs, Union of any number: their contracts. -/
import Derived.Test.YthehbnfkobkciaaRCt
import Derived.Test.YthehbnfkobkciaaRNo
import Derived.Test.YthehbnfkobkciaaRSl
namespace Go.Proofs.Ythehbnfkobkciaa
open Go.RowKit Go.Lib

set_option maxRecDepth 100000 in
set_option maxHeartbeats 4000000 in
theorem concatN_any (ao : Option Addr) (q cp : Nat) (X : List Sl) (w : World) (hC : CSrc w ao q X) (hlen : tot X ≤ 8796093022207) :
    Calls Try.prog 13 #[.slice ao q cp] w fun e w' => ∃ ap c, e = .returned (.slice ap (tot X) c) ∧ OwnR w.heap.size w.heap.size w w' ap c (cat X) := by
  have HC := hide hC
  have HL : Hid (X.length = q) := hC.len
  have hq := hC.big
  clear hC
  go_enter Try.func13, Try.ntmps13
  go_wp2_with fail
  go_loopw [3, 5, 11] (fun s _ i wr => ∃ k z : Nat, k ≤ q ∧ s = .int .i64 z ∧ i = .int .i64 k ∧ Hid (z = tot (X.take k)) ∧ w = wr) (fun _ _ i _ => q - (intOf i).toNat)
  case atStart => exact ⟨0, 0, Nat.zero_le _, rfl, rfl, rfl, rfl⟩
  case round =>
    obtain ⟨k, z, hk, rfl, rfl, HZ, rfl⟩ := hrel
    have hz1 : z ≤ tot X := by rw [HZ.out]; exact tot_take X k
    by_cases hlt : k < q
    · obtain ⟨ad, s, rfl, hs, cs, _⟩ := HC.out.at k hlt
      have HN : Hid (tot (X.take (k + 1)) = z + s.n) := by show _ = _; rw [take_one hs, tot_append, ← HZ.out]; simp [tot]
      have hz2 : z + s.n ≤ tot X := by rw [← HN.out]; exact tot_take X (k + 1)
      clear hs
      obtain ⟨sa, sn, sc, sL⟩ := s
      simp only at cs hz2 HN
      go_wp2_with fail
      go_roundw
      case rel => exact ⟨k + 1, z + sn, by omega, by go_num, by go_num, HN.out.symm, trivial⟩
      case measure => simp [intOf]; omega
    · obtain rfl : k = q := by omega
      have e : z = tot X := by rw [HZ.out, List.take_of_length_le (by rw [HL.out]; exact Nat.le_refl _)]
      clear HZ hz1
      subst e
      go_wp2_with fail
      refine (grow_nil (tot X) _ hlen).mono ?_
      rintro e w3 ⟨a3, c3, rfl, O3⟩
      have HO3 := hide O3
      clear O3
      go_wp2_with fail
      go_loopw [6, 8, 27] (fun v _ i wr => ∃ (j : Nat) (ap : Option Addr) (c : Nat) (acc : List Rn), j ≤ k ∧ v = .slice ap acc.length c ∧ i = .int .i64 j ∧ Hid (acc = cat (X.take j) ∧ OwnR w.heap.size w.heap.size w wr ap c acc)) (fun _ _ i _ => k - (intOf i).toNat)
      case atStart => exact ⟨0, a3, c3, [], Nat.zero_le _, rfl, rfl, rfl, HO3.out⟩
      case round =>
        clear HO3
        obtain ⟨j, ap, c, acc, hj, rfl, rfl, H⟩ := hrel
        rename World => w4
        by_cases hjl : j < k
        · obtain ⟨ad, s, rfl, hs, cs, sS⟩ := (HC.out.below H.out.2.below).at j hjl
          have HS := hide sS
          have HT : Hid (cat (X.take (j + 1)) = acc ++ s.L) := by show _ = _; rw [take_one hs, cat_append, ← H.out.1]; simp [cat]
          have hb : acc.length + s.n ≤ tot X := by
            have h1 := cat_len (w := w) (X := X.take (j + 1)) (fun t ht => HC.out.src t (List.mem_of_mem_take ht))
            rw [HT.out, List.length_append, sS.len] at h1
            rw [h1]; exact tot_take X (j + 1)
          clear hs sS
          obtain ⟨sa, sn, sc, sL⟩ := s
          simp only at cs hb HT HS
          go_wp2_with (at_builtin; refine H.out.2.appendAll sa sn sc sL HS.out (by omega) rfl (.tmp 31) (.tmp 32) rfl acc.length rfl rfl rfl ?_; intro a5 c5 w5 O5)
          go_roundw
          case rel => exact ⟨j + 1, a5, c5, acc ++ sL, by omega, by simp [List.length_append, HS.out.len], by go_num, HT.out.symm, O5⟩
          case measure => simp [intOf]; omega
        · obtain rfl : j = k := by omega
          have HF : Hid (∃ c', (Value.slice ap acc.length c : Value) = .slice ap (tot X) c' ∧ OwnR w.heap.size w.heap.size w w4 ap c' (cat X)) := by
            have e : acc = cat X := by rw [H.out.1, List.take_of_length_le (by rw [HL.out]; exact Nat.le_refl _)]
            rw [e, cat_len HC.out.src]
            exact ⟨c, rfl, by rw [← e]; exact H.out.2⟩
          go_wp2_with fail
          go_ret
          obtain ⟨c', e1, e2⟩ := HF.out
          exact ⟨ap, c', by rw [e1]; rfl, e2⟩
def UnionsOf (X : List Sl) (R : List Rn) : Prop := form 1 R ∧ ∀ n, mem R n ↔ ∃ s, s ∈ X ∧ mem s.L n
theorem unionN_any (ao : Option Addr) (q cp : Nat) (X : List Sl) (w : World) (hC : CSrc w ao q X) (hlen : tot X ≤ 8796093022207) :
    Calls Try.prog 5 #[.slice ao q cp] w fun e w' => GivesR w w' e (UnionsOf X) := by
  have HC := hide (concatN_any ao q cp X w hC hlen)
  have HL : Hid ((cat X).length = tot X) := cat_len hC.src
  clear hC
  go_enter Try.func5, Try.ntmps5
  go_wp2_with fail
  refine HC.out.mono ?_
  rintro e w1 ⟨a1, c1, rfl, O1⟩
  have S1 := (O1.src (by rw [HL.out]; exact hlen)).1
  rw [HL.out] at S1
  have HS1 := hide S1
  have HB1 := hide O1.below
  clear O1 S1
  go_wp2_with fail
  refine (norm_any a1 (tot X) c1 (cat X) _ HS1.out).mono ?_
  rintro e w2 ⟨a2, n2, c2, R, rfl, S2, b2, p2⟩
  have HF : Hid (GivesR w w2 (.returned (.slice a2 n2 c2)) (UnionsOf X)) := ⟨a2, n2, c2, R, rfl, S2, HB1.out.trans (b2.mono HB1.out.size), p2.1, fun x => by rw [p2.2 x, mem_cat]⟩
  clear S2 b2 p2
  go_wp2_with fail
  go_ret
  exact HF.out
end Go.Proofs.Ythehbnfkobkciaa
