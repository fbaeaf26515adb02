/- The reference's EqualAll, of rows that say the same; a literal row of three lists. -/
import Derived.Test.YtmmgbcmcjakdoaaWAw
import Derived.Test.YtmmgbcmcjakdoaaWSo
namespace Go.Proofs.Ytmmgbcmcjakdoaa
open Go.RowKit V

set_option maxHeartbeats 1600000 in
theorem equalAll_any (ao bo : Option Addr) (n c d : Nat) (X Y : List Sv) (w : World) (hX : VRow w ao n X) (hY : VRow w bo n Y) (hz : X.map Sv.Z = Y.map Sv.Z) (hn : n ≤ 1048576) (hN : ∀ p, p ∈ X → p.vn ≤ 17592186044416) :
    Calls Try.prog 7 #[.slice ao n c, .slice bo n d] w fun e w' => e = .returned (.bool true) ∧ Below w.heap.size w w' := by
  have HA := hide hX
  have HB := hide hY
  have HN := hide hN
  have HZ := hide hz
  clear hX hY hN hz
  go_enter Try.func7, Try.ntmps7
  go_wp2_with fail
  go_loopw [5] (fun i wr => ∃ k : Nat, k ≤ n ∧ i = .int .i64 k ∧ Hid (Below w.heap.size w wr)) (fun i _ => n - (intOf i).toNat)
  case atStart => exact ⟨0, Nat.zero_le _, rfl, Below.refl _ _⟩
  case round =>
    obtain ⟨k, hk, rfl, W⟩ := hrel
    by_cases hlt : k < n
    · obtain ⟨ad, p, rfl, hp, cp, sp⟩ := (HA.out.below W.out).at k hlt
      obtain ⟨bd, q, rfl, hq, cq, sq⟩ := (HB.out.below W.out).at k hlt
      have hpq : p.Z = q.Z := by
        have h := congrArg (fun l => l[k]?) HZ.out
        simp only [List.getElem?_map, hp, hq, Option.map_some] at h
        exact Option.some.inj h
      have HP := hide (HN.out p (List.mem_of_getElem? hp))
      have k0 := cell_regrown cp
      have k1 := cell_regrown cq
      have SA := hide sp
      have SB := hide sq
      have cE : ∀ d os, Calls Try.prog 15 #[.slice p.vo p.vn p.vc, .slice q.vo q.vn q.vc] (Sort.grow (redrawn wr d) os) fun e w'' => e = .returned (.bool true) ∧ ∃ p : Regrown, w'' = Sort.grow (redrawn wr p.d) p.os := fun d os => by
        have h := equal_any _ _ _ _ _ _ p.Z q.Z _ (SA.out.below (below_regrown wr d os)) (SB.out.below (below_regrown wr d os)) (by have := HP.out; unfold maxLen; omega)
        rw [decide_eq_true hpq] at h
        exact Calls.regrown_of h
      clear hp hq cp cq sp sq hpq
      go_wp2_with fail
      refine wp_region_quiet_below (by kernel_rfl) (by kernel_rfl) ?_
      repeat (quiet_step ((go_at_call 15; exact cE _ _)))
      refine wpQuiet_nil ?_
      intro _ hw'
      obtain ⟨⟨dq, osq⟩, hw''⟩ := hw'
      subst hw''
      have W1 := hide (W.out.trans ((below_regrown wr dq osq).mono W.out.size))
      go_wp2_with fail
      go_roundw
      case rel => exact ⟨k + 1, by omega, by go_num, W1⟩
      case measure => simp [intOf]; omega
    · go_wp2_with fail
      go_ret
      exact ⟨rfl, W.out⟩
/-- three lists, laid one behind the other -/
def X3 (g : Nat) (A B C : List Int) : List Sv := [⟨some ⟨g, 0, none⟩, A.length, A.length, A⟩, ⟨some ⟨g + 1, 0, none⟩, B.length, B.length, B⟩, ⟨some ⟨g + 1 + 1, 0, none⟩, C.length, C.length, C⟩]
theorem three_row (w : World) (A B C : List Int) (a b c : Array Value) (ha : a = (A.map (Value.int .i64)).toArray) (hb : b = (B.map (Value.int .i64)).toArray) (hc : c = (C.map (Value.int .i64)).toArray) (na nb nc : Nat) (hna : A.length = na) (hnb : B.length = nb) (hnc : C.length = nc) :
    VRow ((((w.alloc (.cells a 3)).alloc (.cells b 3)).alloc (.cells c 3)).alloc (.cells #[.slice (some ⟨w.heap.size, 0, none⟩) na na, .slice (some ⟨w.heap.size + 1, 0, none⟩) nb nb, .slice (some ⟨w.heap.size + 1 + 1, 0, none⟩) nc nc] 24)) (some ⟨w.heap.size + 1 + 1 + 1, 0, none⟩) 3 (X3 w.heap.size A B C) := by
  subst hna hnb hnc
  have s1 := lit_src w A a ha 3 _ rfl
  generalize hw1 : w.alloc (.cells a 3) = w1 at *
  have z1 : w1.heap.size = w.heap.size + 1 := by rw [← hw1]; simp
  have s2 := lit_src w1 B b hb 3 _ rfl
  have s1 := s1.below (below_new w1 (.cells b 3))
  generalize hw2 : w1.alloc (.cells b 3) = w2 at *
  have z2 : w2.heap.size = w.heap.size + 1 + 1 := by rw [← hw2]; simp [z1]
  have s3 := lit_src w2 C c hc 3 _ rfl
  have b2 := below_new w2 (.cells c 3)
  have s1 := s1.below b2
  have s2 := s2.below b2
  generalize hw3 : w2.alloc (.cells c 3) = w3 at *
  have z3 : w3.heap.size = w.heap.size + 1 + 1 + 1 := by rw [← hw3]; simp [z2]
  rw [z1] at s2
  rw [z2] at s3
  clear hw1 hw2 hw3 z1 z2 b2
  have b5 : ∀ o, Below w3.heap.size w3 (w3.alloc o) := fun o => below_new w3 o
  refine ⟨rfl, (fun h => by cases h), fun ad h t p hp => ?_, fun p hp => ?_⟩
  · obtain rfl := Option.some.inj h
    rw [Addr.add_lit, Nat.zero_add, ← z3, World.cell?_alloc_new]
    match t, hp with
    | 0, hp => cases hp; rfl
    | 1, hp => cases hp; rfl
    | 2, hp => cases hp; rfl
    | t + 3, hp => simp [X3] at hp
  · simp only [X3, List.mem_cons, List.not_mem_nil, or_false] at hp
    rcases hp with rfl | rfl | rfl
    · exact s1.below (b5 _)
    · exact s2.below (b5 _)
    · exact s3.below (b5 _)
end Go.Proofs.Ytmmgbcmcjakdoaa
