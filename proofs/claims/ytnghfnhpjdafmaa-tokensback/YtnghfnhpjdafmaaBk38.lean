/- FSp -/
import Derived.Test.YtnghfnhpjdafmaaBk37
namespace Go.Proofs.Ytnghfnhpjdafmaa
open Go.RowKit


/-- the letters of whole groups of five bits, and the bits behind them -/
def emit (n b : Nat) : List Int × Nat := if h : 5 ≤ n then (lt32 (b / 2 ^ (n - 5)) :: (emit (n - 5) (b % 2 ^ (n - 5))).1, (emit (n - 5) (b % 2 ^ (n - 5))).2) else ([], b)
termination_by n
decreasing_by all_goals omega
theorem emit_ge {n b : Nat} (h : 5 ≤ n) : emit n b = (lt32 (b / 2 ^ (n - 5)) :: (emit (n - 5) (b % 2 ^ (n - 5))).1, (emit (n - 5) (b % 2 ^ (n - 5))).2) := by rw [emit, dif_pos h]
theorem emit_lt {n b : Nat} (h : ¬ 5 ≤ n) : emit n b = ([], b) := by rw [emit, dif_neg h]
def spellF : Nat → Nat → List Int → List Int
  | n, b, [] => if 0 < n then [lt32 (b * 2 ^ (5 - n))] else []
  | n, b, c :: t => (emit (n + 8) (b * 256 + c.toNat)).1 ++ spellF ((n + 8) % 5) (emit (n + 8) (b * 256 + c.toNat)).2 t
theorem bs_at {w : World} {ao : Option Addr} {m c : Nat} {Z : List Int} (h : U.BS w ao m c Z) (k : Nat) (hk : k < m) : ∃ ad, ao = some ad ∧ w.cell? (ad.add k) = some (.int .u8 (Z.getD k 0)) := by
  cases ao with
  | none => have := (h.nil rfl).1; omega
  | some ad => exact ⟨ad, rfl, h.cell ad rfl k hk⟩
theorem up8 {b n y : Nat} (h : b < 2 ^ n) (hy : y ≤ 255) : b * 256 + y < 2 ^ (n + 8) := by
  rw [Nat.pow_add]
  generalize 2 ^ n = q at *
  have : q * 2 ^ 8 = q * 256 := rfl
  omega
theorem sub5 {b n : Nat} (h : b < 2 ^ (n + 5)) : b / 2 ^ n < 32 := by
  rw [Nat.pow_add] at h
  have h0 : 0 < 2 ^ n := Nat.two_pow_pos n
  generalize 2 ^ n = q at *
  exact Nat.div_lt_of_lt_mul h
theorem up5 {b n : Nat} (h : b < 2 ^ n) (hn : n < 5) : b * 2 ^ (5 - n) < 32 := by
  have h1 : 2 ^ n * 2 ^ (5 - n) = 32 := by rw [← Nat.pow_add, Nat.add_sub_cancel' (Nat.le_of_lt hn)]
  have h2 : 0 < 2 ^ (5 - n) := Nat.two_pow_pos _
  rw [← h1]
  exact Nat.mul_lt_mul_of_pos_right h h2
theorem cast_ne {p : Nat} (h : 0 < p) : ¬ (p : Int) = 0 := by omega
theorem wrap32 {v : Nat} (h : v < 32) : wrap64 (v : Int) = v := by unfold wrap64; omega
theorem cast32 {v : Nat} (h : v < 32) : 0 ≤ (v : Int) ∧ (v : Int) < 32 := by omega
theorem pw_wrap {n p : Nat} (hn : n ≤ 7) (hp : 2 ^ n = p) : wrap64 ((2 : Int) ^ n) = (p : Int) := by
  have h1 : (2 : Int) ^ n = (p : Int) := by rw [← hp]; simp
  have h2 : p ≤ 128 := by rw [← hp]; exact Nat.pow_le_pow_right (n := 2) (j := 7) (by decide) hn
  rw [h1]
  clear h1 hp
  unfold wrap64; omega
theorem lt_fold (v : Nat) (h : v < letS.size) : ((letS[v]'h).toNat : Int) = lt32 v := by
  unfold lt32
  rw [Array.getD_eq_getD_getElem?, Array.getElem?_eq_getElem (show v < letS.data.size from h)]
  rfl
set_option maxRecDepth 100000 in
set_option maxHeartbeats 3200000 in
theorem spell_any (so : Option Addr) (m c : Nat) (Y : List Int) (w : World) (S : U.BS w so m c Y) (hY : ∀ t, 0 ≤ Y.getD t 0 ∧ Y.getD t 0 ≤ 255) (hm : m ≤ 1000000000000) :
    Calls Try.prog 81 #[.slice so m c] w fun e w' => ∃ bo n cc, e = .returned (.slice bo n cc) ∧ U.BR w' bo n cc (spellF 0 0 Y) ∧ U.NewB w w' bo := by
  have HS := hide S
  have HY := hide hY
  have hl := S.len
  have HL := hide hl
  clear S hY hl
  go_enter Try.func81, Try.ntmps81
  go_wp2_with fail
  go_loopw [3, 4, 5, 10] (fun o b n i wr => ∃ (k bn nn q qc : Nat) (ob : Option Addr), k ≤ m ∧ i = .int .i64 k ∧ b = .int .i64 bn ∧ n = .int .i64 nn ∧ o = .slice ob q qc ∧ nn < 5 ∧ bn < 2 ^ nn ∧ Hid (∃ Z, U.BR wr ob q qc Z ∧ U.Ap w wr none ob ∧ q ≤ 2 * k ∧ Z ++ spellF nn bn (Y.drop k) = spellF 0 0 Y)) (fun _ _ _ i _ => m - (intOf i).toNat)
  case atStart => exact ⟨0, 0, 0, 0, 0, none, Nat.zero_le _, rfl, rfl, rfl, rfl, by decide, by decide, [], U.BR.nil w, U.Ap.refl _ _, Nat.le_refl _, rfl⟩
  case round =>
    obtain ⟨k, bn, nn, q, qc, ob, hk, rfl, rfl, rfl, rfl, hn5, hb2, HZ⟩ := hrel
    rename World => wr
    by_cases hlt : k < m
    · have hA := (U.NewB.of_ap HZ.out.choose_spec.2.1).1
      obtain ⟨ad, rfl, q1⟩ := bs_at (HS.out.below hA) k hlt
      obtain ⟨y, hy⟩ : ∃ y : Nat, Y.getD k 0 = (y : Int) := ⟨(Y.getD k 0).toNat, by have := HY.out k; omega⟩
      have hy2 : y ≤ 255 := by have := HY.out k; omega
      rw [hy] at q1
      have hbn : bn ≤ 15 := by
        have : 2 ^ nn ≤ 2 ^ 4 := Nat.pow_le_pow_right (by decide) (by omega)
        omega
      obtain ⟨b1, hb1⟩ : ∃ b1 : Nat, bn * 256 = b1 := ⟨_, rfl⟩
      obtain ⟨b2, hb2'⟩ : ∃ b2 : Nat, b1 + y = b2 := ⟨_, rfl⟩
      obtain ⟨n8, hn8⟩ : ∃ n8 : Nat, nn + 8 = n8 := ⟨_, rfl⟩
      have w2 : (bn : Int) * 256 + (y : Int) = (b2 : Int) := by omega
      have w3 : (nn : Int) + 8 = (n8 : Int) := by omega
      have hdr : Y.drop k = (y : Int) :: Y.drop (k + 1) := by
        rw [List.drop_eq_getElem_cons (by have := HL.out; omega), ← hy, List.getD_eq_getElem?_getD, List.getElem?_eq_getElem (by have := HL.out; omega)]
        rfl
      have HZ2 : Hid (∃ Z, U.BR wr ob q qc Z ∧ U.Ap w wr none ob ∧ q ≤ 2 * k ∧ Z ++ ((emit n8 b2).1 ++ spellF (n8 % 5) (emit n8 b2).2 (Y.drop (k + 1))) = spellF 0 0 Y) := by
        obtain ⟨Z, z1, z2, z3, z4⟩ := HZ.out
        refine ⟨Z, z1, z2, z3, ?_⟩
        rw [hdr] at z4
        simp only [spellF, Int.toNat_natCast, hb1, hb2', hn8] at z4
        exact z4
      have Hn8 : Hid (8 ≤ n8 ∧ n8 ≤ 12 ∧ b2 < 2 ^ n8) := by
        refine ⟨by omega, by omega, ?_⟩
        rw [← hn8, ← hb2', ← hb1]; exact up8 hb2 hy2
      clear hA HZ hb1 hb2' hn8 hdr hy
      go_wp2_with fail
      clear w2 w3
      go_loopw [3, 4, 5] (fun o b n wr => ∃ (bn nn q qc : Nat) (ob : Option Addr), b = .int .i64 bn ∧ n = .int .i64 nn ∧ o = .slice ob q qc ∧ nn ≤ 12 ∧ bn < 2 ^ nn ∧ Hid (∃ Z, U.BR wr ob q qc Z ∧ U.Ap w wr none ob ∧ 5 * q + nn ≤ 10 * k + 12 ∧ nn % 5 = n8 % 5 ∧ Z ++ ((emit nn bn).1 ++ spellF (n8 % 5) (emit nn bn).2 (Y.drop (k + 1))) = spellF 0 0 Y)) (fun _ _ n _ => (intOf n).toNat)
      case atStart =>
        obtain ⟨Z, z1, z2, z3, z4⟩ := HZ2.out
        exact ⟨b2, n8, q, qc, ob, rfl, rfl, rfl, Hn8.out.2.1, Hn8.out.2.2, Z, z1, z2, by have := Hn8.out; omega, rfl, z4⟩
      case round =>
        obtain ⟨b, n, q2, qc2, ob2, rfl, rfl, rfl, hn12, hb, HZ3⟩ := hrel
        rename World => wv
        by_cases h5 : 5 ≤ n
        · obtain ⟨n5, hn5'⟩ : ∃ n5 : Nat, n = n5 + 5 := ⟨n - 5, by omega⟩
          have hn7 : n5 ≤ 7 := by omega
          have hv32 : b / 2 ^ n5 < 32 := sub5 (by rw [← hn5']; exact hb)
          obtain ⟨v, hv⟩ : ∃ v, b / 2 ^ n5 = v := ⟨_, rfl⟩
          rw [hv] at hv32
          have hvI : (b : Int) / 2 ^ n5 = (v : Int) := by rw [← hv]; simp
          have hw5 : (n : Int) - 5 = (n5 : Int) := by omega
          have hw6 : n - 5 = n5 := by omega
          have hvI2 : 0 ≤ (v : Int) ∧ (v : Int) < 32 := by omega
          obtain ⟨p, hp⟩ : ∃ p : Nat, 2 ^ n5 = p := ⟨_, rfl⟩
          have hp0 : 0 < p := by rw [← hp]; exact Nat.two_pow_pos n5
          have hpw : wrap64 ((2 : Int) ^ n5) = (p : Int) := pw_wrap hn7 hp
          have hpn : ¬ (p : Int) = 0 := cast_ne hp0
          have hr : (b : Int) % (p : Int) = ((b % p : Nat) : Int) := by simp
          have hnn : 5 ≤ (n : Int) := by omega
          obtain ⟨Z3, z1, z2, z3, z4, z5⟩ := HZ3.out
          have HZq := hide (And.intro z2 (And.intro z3 (And.intro z4 z5)))
          have HZ1 := hide z1
          have hq2 : q2 ≤ 4000000000000 := by omega
          have HE := hide (And.intro hn5' (And.intro hv (And.intro hb hp)))
          clear hp z1 z2 z3 z4 z5 hn5' hv hb HZ3 HZ2 q1 hb2 hn5 hbn hy2
          go_wp2_with (at_builtin; go_loud (refine U.BR.app1 HZ1.out _ (by omega) rfl (.tmp 25) (.tmp 30) rfl rfl rfl ?_); intro ob3 qc3 wx hr3 ha3)
          obtain ⟨d1, d2, d3, d4⟩ := HE.out
          obtain ⟨e2, e3, e4, e5⟩ := HZq.out
          refine ⟨⟨b % p, n5, q2 + 1, qc3, ob3, rfl, rfl, rfl, by omega, by rw [← d4]; exact Nat.mod_lt _ (Nat.two_pow_pos _), Z3 ++ [lt32 v], by rw [← lt_fold v (by rw [letS_size]; exact hv32)]; exact hr3, e2.trans ha3, by omega, by omega, ?_⟩, by show (n5 : Int).toNat < (n : Int).toNat; omega⟩
          rw [← e5, emit_ge (n := n) h5, hw6, d2, d4]
          simp
        · obtain ⟨Z3, z1, z2, z3, z4, z5⟩ := HZ3.out
          rw [emit_lt h5, ← z4, Nat.mod_eq_of_lt (by clear hb hb2; omega : n < 5)] at z5
          have HZ4 : Hid (∃ Z, U.BR wv ob2 q2 qc2 Z ∧ U.Ap w wv none ob2 ∧ q2 ≤ 2 * (k + 1) ∧ Z ++ spellF n b (Y.drop (k + 1)) = spellF 0 0 Y) := ⟨Z3, z1, z2, by clear hb hb2; omega, z5⟩
          have hnn : ¬ 5 ≤ (n : Int) := by clear hb hb2; omega
          have HB := hide hb
          clear z1 z2 z3 z4 z5 HZ3 HZ2 q1 hb2 hn5 hbn hy2 hb
          go_wp2_with fail
          exact ⟨⟨k + 1, b, n, q2, qc2, ob2, by omega, rfl, rfl, rfl, rfl, by omega, HB.out, HZ4⟩, by show m - (k + 1) < m - k; omega⟩
    · obtain ⟨Z, z1, z2, z3, z4⟩ := HZ.out
      have hkm : k = m := by clear hb2; omega
      rw [hkm, List.drop_eq_nil_of_le (by have := HL.out; clear hb2; omega)] at z4
      have HZ1 := hide z1
      have HZq := hide (And.intro z2 (And.intro z3 z4))
      have hqq : q ≤ 4000000000000 := by clear hb2; omega
      clear z1 z2 z3 z4 HZ
      by_cases hn0 : 0 < nn
      · obtain ⟨v, hv⟩ : ∃ v, bn * 2 ^ (5 - nn) = v := ⟨_, rfl⟩
        have hv32 : v < 32 := by rw [← hv]; exact up5 hb2 hn5
        have hv3 : wrap64 ((bn : Int) * 2 ^ (5 - nn)) = (v : Int) := by
          have h1 : (bn : Int) * 2 ^ (5 - nn) = (v : Int) := by rw [← hv]; simp
          rw [h1]; exact wrap32 hv32
        have hvI2 : 0 ≤ (v : Int) ∧ (v : Int) < 32 := cast32 hv32
        have HE := hide hv
        clear hb2 hv
        go_wp2_with (at_builtin; go_loud (refine U.BR.app1 HZ1.out _ (by omega) rfl (.tmp 39) (.tmp 45) rfl rfl rfl ?_); intro ob3 qc3 wx hr3 ha3)
        obtain ⟨e2, e3, e4⟩ := HZq.out
        go_ret
        refine ⟨ob3, q + 1, qc3, rfl, ?_, U.NewB.of_ap (e2.trans ha3)⟩
        rw [← e4]
        show U.BR wx ob3 (q + 1) qc3 (Z ++ if 0 < nn then [lt32 (bn * 2 ^ (5 - nn))] else [])
        rw [if_pos hn0, HE.out, ← lt_fold v (by rw [letS_size]; exact hv32)]
        exact hr3
      · clear hb2
        go_wp2_with fail
        obtain ⟨e2, e3, e4⟩ := HZq.out
        go_ret
        refine ⟨ob, q, qc, rfl, ?_, U.NewB.of_ap e2⟩
        rw [← e4]
        show U.BR wr ob q qc (Z ++ if 0 < nn then [lt32 (bn * 2 ^ (5 - nn))] else [])
        rw [if_neg hn0, List.append_nil]
        exact HZ1.out
end Go.Proofs.Ytnghfnhpjdafmaa
