/- FUn -/
import Derived.Test.YtnghfnhpjdafmaaBk39
namespace Go.Proofs.Ytnghfnhpjdafmaa
open Go.RowKit

/-- the bytes of letters, behind so many bits; none where a byte is no letter -/
def unF : Nat → Nat → List Int → Option (List Int)
  | _, _, [] => some []
  | n, b, c :: t => if valF c < 0 then none else if 8 ≤ n + 5 then (unF (n - 3) ((b * 32 + (valF c).toNat) % 2 ^ (n - 3)) t).map ((((b * 32 + (valF c).toNat) / 2 ^ (n - 3) : Nat) : Int) :: ·) else unF (n + 5) (b * 32 + (valF c).toNat) t
theorem up55 {b n v : Nat} (h : b < 2 ^ n) (hv : v < 32) : b * 32 + v < 2 ^ (n + 5) := by
  rw [Nat.pow_add]
  generalize 2 ^ n = q at *
  have : q * 2 ^ 5 = q * 32 := rfl
  omega
theorem sub8 {b n : Nat} (h : b < 2 ^ (n + 8)) : b / 2 ^ n < 256 := by
  rw [Nat.pow_add] at h
  generalize 2 ^ n = q at *
  exact Nat.div_lt_of_lt_mul h
/-- a text's byte -/
def sB (s : ByteArray) (k : Nat) : Int := ((s.data.getD k 0).toNat : Int)
def strL (s : ByteArray) : List Int := s.data.toList.map fun c => (c.toNat : Int)
theorem sB_fold (s : ByteArray) (k : Nat) (h : k < s.size) : ((s[k]'h).toNat : Int) = sB s k := by
  unfold sB
  rw [Array.getD_eq_getD_getElem?, Array.getElem?_eq_getElem (show k < s.data.size from h)]
  rfl
theorem strL_len (s : ByteArray) : (strL s).length = s.size := by simp [strL]
theorem strL_drop (s : ByteArray) (k : Nat) (h : k < s.size) : (strL s).drop k = sB s k :: (strL s).drop (k + 1) := by
  have hl : k < (strL s).length := by rw [strL_len]; exact h
  rw [List.drop_eq_getElem_cons hl]
  congr 1
  have h2 : (strL s)[k]? = some (sB s k) := by
    unfold sB strL
    rw [List.getElem?_map, Array.getD_eq_getD_getElem?, Array.getElem?_toList, Array.getElem?_eq_getElem (show k < s.data.size from h)]
    rfl
  exact (List.getElem?_eq_some_iff.1 h2).2
theorem div256 {b n : Nat} (h : b / 2 ^ n < 256) : (b : Int) / 2 ^ n % 256 = ((b / 2 ^ n : Nat) : Int) := by
  have e : (b : Int) / 2 ^ n = ((b / 2 ^ n : Nat) : Int) := by simp
  rw [e]
  generalize b / 2 ^ n = y at *
  omega
theorem mod256 {y : Nat} (h : y < 256) : (y : Int) % 256 = (y : Int) := by omega
set_option maxRecDepth 100000 in
set_option maxHeartbeats 3200000 in
theorem unspell_any (s : ByteArray) (w : World) (hs : s.size ≤ 140737488355328) :
    Calls Try.prog 85 #[.string s] w fun e w' => (unF 0 0 (strL s) = none ∧ e = .returned (.tuple #[.slice none 0 0, .bool false]) ∧ Below w.heap.size w w') ∨ ∃ Y bo n cc, unF 0 0 (strL s) = some Y ∧ e = .returned (.tuple #[.slice bo n cc, .bool true]) ∧ U.BR w' bo n cc Y ∧ U.NewB w w' bo := by
  obtain ⟨m, hm⟩ : ∃ m, s.size = m := ⟨_, rfl⟩
  have HM := hide hm
  go_enter Try.func85, Try.ntmps85
  rw [hm] at hs
  go_wp2_with fail
  go_loopw [4, 5, 6, 11] (fun o b n i wr => ∃ (k bn nn q qc : Nat) (ob : Option Addr), k ≤ m ∧ i = .int .i64 k ∧ b = .int .i64 bn ∧ n = .int .i64 nn ∧ o = .slice ob q qc ∧ nn < 8 ∧ q ≤ k ∧ Hid (bn < 2 ^ nn ∧ ∃ Z, U.BR wr ob q qc Z ∧ U.Ap w wr none ob ∧ (unF nn bn ((strL s).drop k)).map (Z ++ ·) = unF 0 0 (strL s))) (fun _ _ _ i _ => m - (intOf i).toNat)
  case atStart => exact ⟨0, 0, 0, 0, 0, none, Nat.zero_le _, rfl, rfl, rfl, rfl, by decide, Nat.le_refl _, by decide, [], U.BR.nil w, U.Ap.refl _ _, by rw [List.drop_zero]; cases unF 0 0 (strL s) <;> rfl⟩
  case round =>
    obtain ⟨k, bn, nn, q, qc, ob, hk, rfl, rfl, rfl, rfl, hn8, hq, HZ⟩ := hrel
    rename World => wr
    by_cases hlt : k < m
    · obtain ⟨v, hv⟩ : ∃ v, valF (sB s k) = v := ⟨_, rfl⟩
      have HC : Hid (∀ h, Calls Try.prog 115 #[.int .u8 ((s[k]'h).toNat : Int)] wr fun e w' => e = .returned (.int .i64 v) ∧ w' = wr) := fun h => by rw [sB_fold, ← hv]; exact valueOf_any _ _
      have g1 := valF_ge (sB s k)
      have g2 := valF_lt (sB s k)
      rw [hv] at g1 g2
      have hdr := strL_drop s k (by rw [hm]; exact hlt)
      by_cases hv0 : v < 0
      · have HZ2 : Hid (unF 0 0 (strL s) = none ∧ Below w.heap.size w wr) := by
          obtain ⟨_, Z, z1, z2, z3⟩ := HZ.out
          rw [hdr, unF, hv, if_pos hv0] at z3
          exact ⟨z3.symm, (U.NewB.of_ap z2).1⟩
        clear HZ hdr hv
        go_wp2_with (go_at_call 115; refine (HC.out _).mono ?_; rintro e w' ⟨rfl, rfl⟩)
        go_ret2
        exact .inl ⟨HZ2.out.1, rfl, HZ2.out.2⟩
      · obtain ⟨v, rfl⟩ : ∃ u : Nat, v = (u : Int) := ⟨v.toNat, by omega⟩
        obtain ⟨b2, hb2⟩ : ∃ b2, bn * 32 + v = b2 := ⟨_, rfl⟩
        have hbn : bn ≤ 127 := Nat.le_of_lt_succ (Nat.lt_of_lt_of_le HZ.out.1 (Nat.pow_le_pow_right (n := 2) (j := 7) (by decide) (by omega)))
        have w2 : (bn : Int) * 32 + (v : Int) = (b2 : Int) := by omega
        obtain ⟨n5, hn5⟩ : ∃ n5, nn + 5 = n5 := ⟨_, rfl⟩
        have w3 : (nn : Int) + 5 = (n5 : Int) := by omega
        have HB : Hid (b2 < 2 ^ n5) := by show b2 < 2 ^ n5; rw [← hb2, ← hn5]; exact up55 HZ.out.1 (by omega)
        have hv1 : ¬ ((v : Nat) : Int) < 0 := hv0
        by_cases h8 : 8 ≤ n5
        · obtain ⟨n3, hn3⟩ : ∃ n3, n5 = n3 + 8 := ⟨n5 - 8, by omega⟩
          have e3 : nn - 3 = n3 := by omega
          have h8' : 8 ≤ (n5 : Int) := by omega
          have w4 : (n5 : Int) - 8 = (n3 : Int) := by omega
          have w5 : n5 - 8 = n3 := by omega
          have hn7 : n3 ≤ 7 := by omega
          have hq2 : q ≤ 140737488355327 := by omega
          have hqk : q + 1 ≤ k + 1 := by omega
          have hkk : k + 1 ≤ m := by omega
          have hmk : m - (k + 1) < m - k := by omega
          have hn38 : n3 < 8 := by omega
          have HZ2 : Hid (∃ Z, U.BR wr ob q qc Z ∧ U.Ap w wr none ob ∧ ((unF n3 (b2 % 2 ^ n3) ((strL s).drop (k + 1))).map (((b2 / 2 ^ n3 : Nat) : Int) :: ·)).map (Z ++ ·) = unF 0 0 (strL s)) := by
            obtain ⟨_, Z, z1, z2, z3⟩ := HZ.out
            rw [hdr, unF, hv, if_neg hv0, hn5, if_pos h8, Int.toNat_natCast, hb2, e3] at z3
            exact ⟨Z, z1, z2, z3⟩
          obtain ⟨Z, z1, z2, z3⟩ := HZ2.out
          obtain ⟨y, hy⟩ : ∃ y, b2 / 2 ^ n3 = y := ⟨_, rfl⟩
          have hy8 : y < 256 := by rw [← hy]; exact sub8 (by rw [← hn3]; exact HB.out)
          obtain ⟨p, hp⟩ : ∃ p : Nat, 2 ^ n3 = p := ⟨_, rfl⟩
          have hp0 : 0 < p := by rw [← hp]; exact Nat.two_pow_pos n3
          have hyI : Value.int .i64 ((b2 : Int) / 2 ^ n3) = Value.int .i64 (y : Int) := by rw [← hy]; simp
          have hpw : Value.int .i64 (wrap64 ((2 : Int) ^ n3)) = Value.int .i64 (p : Int) := congrArg _ (pw_wrap hn7 hp)
          have hpn : ¬ (p : Int) = 0 := cast_ne hp0
          have hy9 : (y : Int) % 256 = (y : Int) := mod256 hy8
          have hr : (b2 : Int) % (p : Int) = ((b2 % p : Nat) : Int) := by simp
          have HE : Hid (b2 % p < 2 ^ n3 ∧ (unF n3 (b2 % p) ((strL s).drop (k + 1))).map ((Z ++ [(y : Int)]) ++ ·) = unF 0 0 (strL s)) := by
            refine ⟨by rw [hp]; exact Nat.mod_lt _ hp0, ?_⟩
            rw [hp] at z3
            rw [hp] at hy
            rw [← z3, hy]
            cases unF n3 (b2 % p) ((strL s).drop (k + 1)) <;> simp
          have HZ1 := hide z1
          have HZ3 := hide z2
          clear z1 z2 z3 hp hy HZ HZ2 HB hdr hv hb2
          go_wp2_with first
            | (go_at_call 115; refine (HC.out _).mono ?_; rintro e w' ⟨rfl, rfl⟩)
            | (at_builtin; go_loud (refine U.BR.app1 HZ1.out _ (Nat.succ_le_succ hq2) rfl (.tmp 30) (.tmp 35) rfl rfl rfl ?_); intro ob3 qc3 wx hr3 ha3)
          refine ⟨⟨k + 1, b2 % p, n3, q + 1, qc3, ob3, hkk, rfl, by rw [hr], rfl, rfl, hn38, hqk, HE.out.1, _, ?_, HZ3.out.trans ha3, HE.out.2⟩, hmk⟩
          rw [div256 hy8] at hr3
          exact hr3
        · have HZ2 : Hid (∃ Z, U.BR wr ob q qc Z ∧ U.Ap w wr none ob ∧ (unF n5 b2 ((strL s).drop (k + 1))).map (Z ++ ·) = unF 0 0 (strL s)) := by
            obtain ⟨_, Z, z1, z2, z3⟩ := HZ.out
            rw [hdr, unF, hv, if_neg hv0, hn5, if_neg h8, Int.toNat_natCast, hb2] at z3
            exact ⟨Z, z1, z2, z3⟩
          have h8' : ¬ 8 ≤ (n5 : Int) := by omega
          clear HZ hdr hv hb2
          go_wp2_with (go_at_call 115; refine (HC.out _).mono ?_; rintro e w' ⟨rfl, rfl⟩)
          exact ⟨⟨k + 1, b2, n5, q, qc, ob, by omega, rfl, rfl, rfl, rfl, by omega, by omega, HB.out, HZ2.out⟩, by show m - (k + 1) < m - k; omega⟩
    · have hkm : k = m := by omega
      have HZ2 : Hid (∃ Z, U.BR wr ob q qc Z ∧ U.NewB w wr ob ∧ unF 0 0 (strL s) = some Z) := by
        obtain ⟨_, Z, z1, z2, z3⟩ := HZ.out
        rw [hkm, List.drop_eq_nil_of_le (by rw [strL_len, hm]; exact Nat.le_refl _), unF] at z3
        exact ⟨Z, z1, U.NewB.of_ap z2, by rw [← z3]; simp⟩
      clear HZ
      go_wp2_with fail
      go_ret2
      obtain ⟨Z, z1, z2, z3⟩ := HZ2.out
      exact .inr ⟨Z, ob, q, qc, z3, rfl, z1, z2⟩
end Go.Proofs.Ytnghfnhpjdafmaa
