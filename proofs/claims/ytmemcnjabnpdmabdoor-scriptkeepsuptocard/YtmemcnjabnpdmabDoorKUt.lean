/- upTo; how Parse answers, in numbers. -/
import Derived.Test.YtmemcnjabnpdmabDoorKPs
import Derived.Test.YtmemcnjabnpdmabDoorKPd
import Derived.Test.YtmemcnjabnpdmabDoorKEl
namespace Go.Proofs.YtmemcnjabnpdmabDoor
open Go.RowKit T Y V
variable {w w' w2 : World} {g : Nat}

theorem parse_bad_le : ∀ (m : Nat) (t : List UInt8), t.length ≤ m → ∀ (r : Rd) (k n : Nat), parseT r k t = .bad n → n ≤ k + t.length + 1 := by
  intro m
  induction m with
  | zero =>
    intro t ht r k n h
    have : t = [] := List.eq_nil_of_length_eq_zero (by omega)
    subst this
    rw [parseT_nil] at h
    cases hd : r.hd with
    | none => rw [hd] at h; cases h; simp
    | some x => rw [hd] at h; cases h
  | succ m ih =>
    intro t ht r k n h
    by_cases h0 : t = []
    · subst h0
      rw [parseT_nil] at h
      cases hd : r.hd with
      | none => rw [hd] at h; cases h; simp
      | some x => rw [hd] at h; cases h
    · have hlt := rest_lt h0
      cases hk : takeP r (lineOf t) with
      | none => rw [parseT_bad h0 hk] at h; cases h; omega
      | some r' =>
        rw [parseT_go h0 hk] at h
        have := ih (restOf t) (by omega) r' (k + 1) n h
        omega
def prN : Pr → Int
  | .ok _ _ => 0
  | .bad n => n
def prE : Pr → Int
  | .ok _ _ => 0
  | .bad _ => 17
theorem parse_gen (T : List UInt8) (hT : T.length ≤ 100000000000) (w : World) (hu : Un w) : Calls Tryd.prog 9 #[.string (bs T)] w fun e w' => (∃ m : Sc, e = .returned (.tuple #[.agg (SC m), .int .i64 (prN (parseP T)), .int .i64 (prE (parseP T))]) ∧ ∀ n, parseP T = .bad n → m = sc0) ∧ Below w.heap.size w w' := by
  refine (parse_any T hT w hu).mono ?_
  rintro e w' ⟨hA, hb⟩
  refine ⟨?_, hb⟩
  cases hp : parseP T with
  | ok h L =>
    rw [hp] at hA
    obtain ⟨so, n, c, he, -, -⟩ := hA
    exact ⟨_, he, fun n h => by cases h⟩
  | bad n =>
    rw [hp] at hA
    exact ⟨sc0, hA, fun _ _ => rfl⟩
theorem upL_take (T : List UInt8) : ∀ (i k : Nat), i < T.length → (upL (k + 1) (T.drop i)) = T.getD i 0 :: (if T.getD i 0 = 10 then upL k (T.drop (i + 1)) else upL (k + 1) (T.drop (i + 1))) := by
  intro i k hi
  rw [List.drop_eq_getElem_cons hi, upL]
  have e : T.getD i 0 = T[i] := by simp [List.getD, hi]
  rw [e]
  split <;> rfl
set_option maxRecDepth 100000 in
set_option maxHeartbeats 1600000 in
theorem upTo_any (T : List UInt8) (hT : T.length ≤ 100000000000) (k : Nat) (hk : k ≤ 1000000000000) (w : World) : Calls Tryd.prog 12 #[.string (bs T), .int .i64 (k : Int)] w fun e w' => e = .returned (.string (bs (upL k T))) ∧ w' = w := by
  obtain ⟨s, hs⟩ : ∃ s, bs T = s := ⟨_, rfl⟩
  have hsz : s.size = T.length := by rw [← hs, bs_size]
  have hsb : s.size ≤ 100000000000 := by omega
  have HS := hide hs
  have HZ := hide hsz
  have HG : Hid (∀ i (h : i < s.size), s[i] = T.getD i 0) := by subst hs; exact bs_get _
  have HX : Hid (∀ i, s.extract 0 i = bs (T.take i)) := fun i => by rw [← hs, bs_cut]; rfl
  rw [hs]
  clear hs hsz
  go_enter Tryd.func12, Tryd.ntmps12
  go_wp2_with fail
  go_loop [1, 5] (fun u v => ∃ (i q : Nat), i ≤ s.size ∧ q ≤ k ∧ u = .int .i64 (q : Int) ∧ v = .int .i64 (i : Int) ∧ Hid (upL k T = T.take i ++ upL q (T.drop i))) (fun _ v => s.size - (intOf v).toNat)
  case atStart => exact ⟨0, k, by omega, by omega, rfl, rfl, (by show _ = _; simp)⟩
  case round =>
    obtain ⟨i, q, hi, hq, rfl, rfl, HA⟩ := hrel
    by_cases hlt : i < s.size
    · by_cases hq0 : q = 0
      · have HE : Hid (upL k T = T.take i) := by show _ = _; rw [HA.out, hq0, upL_zero, List.append_nil]
        have hx := HX.out i
        subst hq0
        have hiI : (i : Int) ≤ s.size := by omega
        go_wp2_with fail
        go_ret
        exact ⟨ret_str (by rw [HE.out]), rfl⟩
      · obtain ⟨p, hp⟩ : ∃ p, q = p + 1 := ⟨q - 1, by omega⟩
        have hqI : ¬ (q : Int) ≤ 0 := by omega
        obtain ⟨x, hx⟩ : ∃ x, s[i] = x := ⟨_, rfl⟩
        have hxT : T.getD i 0 = x := by rw [← HG.out i hlt, hx]
        have hstep := upL_take T i p (by have := HZ.out; omega)
        have htake : T.take (i + 1) = T.take i ++ [x] := by
          have hiT : i < T.length := by have := HZ.out; omega
          rw [List.take_succ_eq_append_getElem hiT, ← hxT]
          simp [List.getD, hiT]
        rw [hxT] at hstep
        by_cases h10 : x = 10
        · have e10 : ((x.toNat : Int) == 10) = true := by rw [h10]; rfl
          have HA2 : Hid (upL k T = T.take (i + 1) ++ upL p (T.drop (i + 1))) := by show _ = _; rw [HA.out, hp, hstep, if_pos h10, htake]; simp
          have HQ : Hid ((q : Int) - 1 = (p : Int)) := by show _ = _; omega
          have Hpk : Hid (p ≤ k) := by show _ ≤ _; omega
          clear hstep htake hxT h10 hp
          go_wp2_with fail
          go_round
          case rel => exact ⟨i + 1, p, by omega, Hpk.out, by first | rfl | (rw [HQ.out]), by go_num, HA2⟩
          case measure => simp [intOf]; omega
        · have e10 : ((x.toNat : Int) == 10) = false := by
            rw [beq_eq_false_iff_ne]
            intro h
            apply h10
            have : x.toNat = (10 : UInt8).toNat := by simpa using (by omega : x.toNat = 10)
            exact UInt8.toNat_inj.1 this
          have HA2 : Hid (upL k T = T.take (i + 1) ++ upL q (T.drop (i + 1))) := by show _ = _; rw [HA.out, hp, hstep, if_neg h10, htake]; simp
          clear hstep htake hxT h10 hp
          go_wp2_with fail
          go_round
          case rel => exact ⟨i + 1, q, by omega, hq, rfl, by go_num, HA2⟩
          case measure => simp [intOf]; omega
    · have hks : ¬ (i : Int) < s.size := by omega
      have HE : Hid (upL k T = T) := by
        show _ = _
        have h1 := HZ.out
        have h2 : T.drop i = [] := List.drop_eq_nil_of_le (by omega)
        have h3 : T.take i = T := List.take_of_length_le (by omega)
        have h4 : upL q ([] : List UInt8) = [] := by cases q <;> rfl
        rw [HA.out, h2, h3, h4, List.append_nil]
      go_wp2_with fail
      go_ret
      exact ⟨ret_str (by rw [HE.out]; exact HS.out.symm), rfl⟩
end Go.Proofs.YtmemcnjabnpdmabDoor
