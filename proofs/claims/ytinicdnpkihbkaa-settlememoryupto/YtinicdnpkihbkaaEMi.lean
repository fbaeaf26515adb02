/- The law's markInts. -/
import Derived.Test.YtinicdnpkihbkaaEMa
namespace Go.Proofs.Ytinicdnpkihbkaa
open Go.RowKit
variable {w w1 w2 w3 wr : World} {ao lo : Option Addr} {n c m lc : Nat} {F : List Sl} {X : List (List Int)} {Z : List Int}

theorem LI.below (h : LI w w1 w2 wr ao n c F X lo m lc Z) (hb : Below wr.heap.size wr w3) : LI w w1 w2 w3 ao n c F X lo m lc Z := ⟨LR.below h.l hb, h.z.below hb, h.zr, h.zo, h.zn, h.ww⟩
def lensL (len0 : Nat → Nat) (k : Nat) : List Int := (List.range k).map fun q => (len0 q : Int)
theorem lensL_next (len0 : Nat → Nat) (k : Nat) : lensL len0 (k + 1) = lensL len0 k ++ [(len0 k : Int)] := by unfold lensL; rw [List.range_succ, List.map_append]; rfl
theorem lensL_at (len0 : Nat → Nat) (k q : Nat) (h : q < k) : (lensL len0 k).getD q 0 = (len0 q : Int) := by simp [lensL, List.getD, h]
theorem lensL_len (len0 : Nat → Nat) (k : Nat) : (lensL len0 k).length = k := by simp [lensL]
set_option maxRecDepth 100000 in
set_option maxHeartbeats 1600000 in
theorem markInts_any (ao : Option Addr) (n c : Nat) (F : List Sl) (X : List (List Int)) (w w1 w2 wr : World) (HL : LN w w1 w2 wr ao n c F X) (ww : w.heap.size ≤ w2.heap.size) (hn : n ≤ 32) (h16 : ∀ q, q < n → (X.getD q []).length ≤ 16) :
    Calls Try.prog 26 #[.slice ao n c] wr fun e w' => e = .returned (.bool true) ∧ ∃ F' X', LN w w1 w2 w' ao n c F' X' := by
  obtain ⟨len0, hlen0⟩ : ∃ len0 : Nat → Nat, ∀ q, (X.getD q []).length = len0 q := ⟨fun q => (X.getD q []).length, fun q => rfl⟩
  have H16 : Hid (∀ q, q < n → len0 q ≤ 16) := fun q hq => by rw [← hlen0 q]; exact h16 q hq
  have HM0 : Hid (M1 len0 X n 0 0) := ⟨fun q _ => hlen0 q, (fun q hq => by omega), (fun j hj => by omega)⟩
  have HL0 := hide (LI.begin HL ww)
  clear HL h16 hlen0 ww
  go_enter Try.func26, Try.ntmps26
  go_wp2_with fail
  go_loopw [3, 15] (fun p i wr => ∃ (k : Nat) (lo : Option Addr) (m lc : Nat) (X : List (List Int)), k ≤ n ∧ i = .int .i64 k ∧ p = .slice lo m lc ∧ Hid (m = k) ∧ Hid (M1 len0 X n k 0) ∧ Hid (LI w w1 w2 wr ao n c F X lo m lc (lensL len0 k))) (fun _ i _ => n - (intOf i).toNat)
  case atStart => exact ⟨0, _, 0, 0, X, Nat.zero_le _, rfl, rfl, rfl, HM0, HL0⟩
  case round =>
    clear HM0 HL0
    obtain ⟨k, lo, m, lc, X, hk, rfl, rfl, HK, HM, HL⟩ := hrel
    by_cases hlt : k < n
    · obtain ⟨b, fa, fn, fc, rfl, eF, cc, hr⟩ := LN.cell HL.out.l k hlt
      have hfn : len0 k = fn := by rw [← HM.out.len k hlt]; exact hr.len
      have hfn16 : fn ≤ 16 := by rw [← hfn]; exact H16.out k hlt
      have HZ := hide HL.out.z
      have HN : Hid (m + 1 ≤ 17592186044316) := by show _ ≤ _; have := HK.out; omega
      have HLn : Hid (∀ (w5 : World) (b5 : Option Addr) (c5 : Nat), IR w5 b5 (m + 1) c5 (lensL len0 k ++ [(fn : Int)]) → Ap wr w5 lo b5 → LI w w1 w2 w5 (some ⟨b, 0, none⟩) n c F X b5 (m + 1) c5 (lensL len0 (k + 1)) ∧ w5.cell? ⟨b, k, none⟩ = some (.slice fa fn fc)) := fun w5 b5 c5 r a => by
        have h5 := HL.out.long r a
        refine ⟨by rw [lensL_next, hfn]; exact h5, ?_⟩
        obtain ⟨b', fa', fn', fc', eb, eF', cc', _⟩ := LN.cell h5.l k hlt
        obtain rfl : b = b' := by cases eb; rfl
        rw [eF] at eF'
        cases eF'
        exact cc'
      clear hr HL
      go_wp2_with (at_builtin; refine HZ.out.app1 (fn : Int) HN.out rfl (.tmp 18) (.tmp 24) rfl rfl rfl ?_; intro b5 c5 w5 R5 A5; obtain ⟨L5, cc5⟩ := HLn.out w5 b5 c5 R5 A5; have HL5 := hide L5; clear R5 A5 L5 HLn HZ cc)
      clear cc5
      go_loopw [31] (fun i wr => ∃ (j : Nat) (X : List (List Int)), j ≤ fn ∧ i = .int .i64 j ∧ Hid (M1 len0 X n k j) ∧ Hid (LI w w1 w2 wr (some ⟨b, 0, none⟩) n c F X b5 (m + 1) c5 (lensL len0 (k + 1)))) (fun i _ => fn - (intOf i).toNat)
      case atStart => exact ⟨0, X, Nat.zero_le _, rfl, HM, HL5⟩
      case round =>
        clear HM HL5
        obtain ⟨j, X, hj, rfl, HM, HL⟩ := hrel
        by_cases hl2 : j < fn
        · obtain ⟨b', fa', fn', fc', eb, eF', cc, hr⟩ := LN.cell HL.out.l k hlt
          obtain rfl : b = b' := by cases eb; rfl
          rw [eF] at eF'
          cases eF'
          obtain ⟨fb, rfl, ci, fz, R, A⟩ := hr.put j hl2 (mkA k j)
          have HL2 := hide (HL.out.set k hlt (by rw [eF]; exact R) (by rw [eF]; exact A))
          have HM2 := hide (HM.out.next hlt HL.out.l.r.len (by omega))
          have eA : mkA k j = 1000 * (k : Int) + (j : Int) := rfl
          rw [eA] at HL2
          have hk' : (k : Int) ≤ 32 := by omega
          have hj' : (j : Int) ≤ 16 := by omega
          clear hr R A HL HM eA eb
          go_wp2_with fail
          go_roundw
          case rel => exact ⟨j + 1, _, by omega, by go_num, HM2, HL2⟩
          case measure => simp [intOf]; omega
        · obtain rfl : j = fn := by omega
          have HM2 : Hid (M1 len0 X n (k + 1) 0) := M1.turn (by rw [hfn]; exact HM.out)
          go_wp2_with fail
          go_roundw
          case rel => exact ⟨k + 1, b5, m + 1, c5, X, by omega, by go_num, rfl, by show _ = _; rw [HK.out], HM2, HL⟩
          case measure => simp [intOf]; omega
    · obtain rfl : k = n := by omega
      have HM2 := hide HM.out.m2
      clear HM
      go_wp2_with fail
      go_loopw [48] (fun i wr => ∃ (q : Nat) (F : List Sl) (X : List (List Int)), q ≤ k ∧ i = .int .i64 q ∧ Hid (M2 len0 X k q 0) ∧ Hid (LI w w1 w2 wr ao k c F X lo m lc (lensL len0 k))) (fun i _ => k - (intOf i).toNat)
      case atStart => exact ⟨0, F, X, Nat.zero_le _, rfl, HM2, HL⟩
      case round =>
        clear HM2 HL
        obtain ⟨q, F, X, hq, rfl, HM, HL⟩ := hrel
        by_cases hl2 : q < k
        · obtain ⟨b, -, -, -, rfl, -, -, -⟩ := LN.cell HL.out.l q hl2
          have hq' : (q : Int) ≤ 32 := by omega
          have hlq := H16.out q hl2
          go_wp2_with fail
          go_loopw [7] (fun i wr => ∃ (j : Nat) (F : List Sl) (X : List (List Int)), j ≤ 16 ∧ i = .int .i64 j ∧ Hid (M2 len0 X k q j) ∧ Hid (LI w w1 w2 wr (some ⟨b, 0, none⟩) k c F X lo m lc (lensL len0 k))) (fun i _ => 16 - (intOf i).toNat)
          case atStart => exact ⟨0, F, X, Nat.zero_le _, rfl, HM, HL⟩
          case round =>
            clear HM HL
            obtain ⟨j, F, X, hj, rfl, HM, HL⟩ := hrel
            by_cases hl3 : j < 16
            · obtain ⟨b', fa, fn, fc, eb, eF, cc, hr⟩ := LN.cell HL.out.l q hl2
              obtain rfl : b = b' := by cases eb; rfl
              have HR := hide hr
              have HN : Hid (fn + 1 ≤ 17592186044316) := by show _ ≤ _; have := hr.len; have := HM.out.at' hl2; omega
              have HA : Hid (∀ (w5 : World) (bo : Option Addr) (m5 c5 : Nat) (x : List Int), IR w5 bo m5 c5 x → Ap wr w5 fa bo → LI w w1 w2 (w5.setCell ⟨b, q, none⟩ (.slice bo m5 c5)) (some ⟨b, 0, none⟩) k c (F.set q ⟨bo, m5, c5⟩) (X.set q x) lo m lc (lensL len0 k) ∧ w5.cell? ⟨b, q, none⟩ = some (.slice fa fn fc) ∧ w5.frozen? ⟨b, q, none⟩ = false) := fun w5 bo m5 c5 x hx a => by
                have ha : Ap wr w5 (F.getD q sl0).a bo := by rw [eF]; exact a
                have g := HL.out.l.r.grow (ρ := rkI) q hl2 (m := m5) (c2 := c5) (x := x) hx ha
                rw [eF] at g
                exact ⟨LI.grow HL.out q hl2 hx ha, g.2.1, g.2.2⟩
              have HM2 := hide (HM.out.next hl2 HL.out.l.r.len (-1 - 1000 * (q : Int) - (j : Int)) (fun _ => rfl))
              have hj' : (j : Int) ≤ 16 := by omega
              clear hr HL HM eb eF
              go_wp2_with (at_builtin; refine HR.out.app1 (-1 - 1000 * (q : Int) - (j : Int)) HN.out rfl (.tmp 60) (.tmp 66) rfl rfl rfl ?_; intro b5 c5 w5 R5 A5; obtain ⟨L5, d5, f5⟩ := HA.out w5 b5 (fn + 1) c5 _ R5 A5; have HL5 := hide L5; clear R5 A5 L5)
              go_roundw
              case rel => exact ⟨j + 1, _, _, by omega, by go_num, HM2, HL5⟩
              case measure => simp [intOf]; omega
            · have hj16 : j = 16 := by omega
              rw [hj16] at HM
              clear hj16
              go_wp2_with fail
              go_loopw [8] (fun i wr => ∃ (j : Nat) (F : List Sl) (X : List (List Int)), j ≤ 80 ∧ i = .int .i64 j ∧ Hid (M2 len0 X k q (16 + j)) ∧ Hid (LI w w1 w2 wr (some ⟨b, 0, none⟩) k c F X lo m lc (lensL len0 k))) (fun i _ => 80 - (intOf i).toNat)
              case atStart => exact ⟨0, F, X, Nat.zero_le _, rfl, HM, HL⟩
              case round =>
                clear HM HL
                obtain ⟨j, F, X, hj, rfl, HM, HL⟩ := hrel
                by_cases hl3 : j < 80
                · obtain ⟨b', fa, fn, fc, eb, eF, cc, hr⟩ := LN.cell HL.out.l q hl2
                  obtain rfl : b = b' := by cases eb; rfl
                  have HR := hide hr
                  have HN : Hid (fn + 1 ≤ 17592186044316) := by show _ ≤ _; have := hr.len; have := HM.out.at' hl2; omega
                  have HA : Hid (∀ (w5 : World) (bo : Option Addr) (m5 c5 : Nat) (x : List Int), IR w5 bo m5 c5 x → Ap wr w5 fa bo → LI w w1 w2 (w5.setCell ⟨b, q, none⟩ (.slice bo m5 c5)) (some ⟨b, 0, none⟩) k c (F.set q ⟨bo, m5, c5⟩) (X.set q x) lo m lc (lensL len0 k) ∧ w5.cell? ⟨b, q, none⟩ = some (.slice fa fn fc) ∧ w5.frozen? ⟨b, q, none⟩ = false) := fun w5 bo m5 c5 x hx a => by
                    have ha : Ap wr w5 (F.getD q sl0).a bo := by rw [eF]; exact a
                    have g := HL.out.l.r.grow (ρ := rkI) q hl2 (m := m5) (c2 := c5) (x := x) hx ha
                    rw [eF] at g
                    exact ⟨LI.grow HL.out q hl2 hx ha, g.2.1, g.2.2⟩
                  have HM2 := hide (HM.out.next hl2 HL.out.l.r.len (-500000 - (q : Int)) (fun h => by omega))
                  clear hr HL HM eb eF
                  go_wp2_with (at_builtin; refine HR.out.app1 (-500000 - (q : Int)) HN.out rfl (.tmp 78) (.tmp 81) rfl rfl rfl ?_; intro b5 c5 w5 R5 A5; obtain ⟨L5, d5, f5⟩ := HA.out w5 b5 (fn + 1) c5 _ R5 A5; have HL5 := hide L5; clear R5 A5 L5)
                  go_roundw
                  case rel => exact ⟨j + 1, _, _, by omega, by go_num, HM2, HL5⟩
                  case measure => simp [intOf]; omega
                · have HM2 := hide (HM.out.turn (by omega))
                  go_wp2_with fail
                  go_roundw
                  case rel => exact ⟨q + 1, F, X, by omega, by go_num, HM2, HL⟩
                  case measure => simp [intOf]; omega
        · obtain rfl : q = k := by omega
          go_wp2_with fail
          go_loopw [87] (fun i wr => ∃ p : Nat, p ≤ q ∧ i = .int .i64 p ∧ Hid (LI w w1 w2 wr ao q c F X lo m lc (lensL len0 q))) (fun i _ => q - (intOf i).toNat)
          case atStart => exact ⟨0, Nat.zero_le _, rfl, HL⟩
          case round =>
            clear HL
            obtain ⟨p, hp, rfl, HL⟩ := hrel
            by_cases hl3 : p < q
            · have hp' : (p : Int) ≤ 32 := by omega
              have hlp := H16.out p hl3
              have hpm : p < m := by have := HK.out; omega
              obtain ⟨ld, rfl, -⟩ := HL.out.z.src.at p (by have := HK.out; omega)
              obtain ⟨b, fa, fn, fc, rfl, eF, -, hr⟩ := LN.cell HL.out.l p hl3
              have hfl : len0 p + 16 ≤ fn := by have := hr.len; have := (HM.out.old p hl3 hl3).1; omega
              clear hr
              obtain ⟨l0, hl0⟩ : ∃ l0, len0 p = l0 := ⟨_, rfl⟩
              rw [hl0] at hlp hfl
              have HCs : Hid (∀ w5, LI w w1 w2 w5 (some ⟨b, 0, none⟩) q c F X (some ld) m lc (lensL len0 q) → w5.cell? (ld.add p) = some (.int .i64 (l0 : Int)) ∧ w5.cell? ⟨b, p, none⟩ = some (.slice fa fn fc) ∧ NSrc w5 fa fn fc (X.getD p [])) := fun w5 h5 => by
                obtain ⟨ld', e1, c1⟩ := h5.z.src.at p (by have := HK.out; omega)
                obtain rfl := Option.some.inj e1
                rw [lensL_at _ _ _ hl3, hl0] at c1
                obtain ⟨b', fa', fn', fc', eb, eF', cc, hr⟩ := LN.cell h5.l p hl3
                obtain rfl : b = b' := by cases eb; rfl
                rw [eF] at eF'
                cases eF'
                exact ⟨c1, cc, hr.src⟩
              have HV1 : Hid (∀ j, j < l0 → (X.getD p []).getD j 0 = 1000 * (p : Int) + (j : Int)) := fun j hj => (HM.out.keep p hl3).2 j (by rw [hl0]; exact hj)
              have HV2 : Hid (∀ j, j < 16 → (X.getD p []).getD (l0 + j) 0 = -1 - 1000 * (p : Int) - (j : Int)) := fun j hj => by have := (HM.out.old p hl3 hl3).2 j hj; rw [hl0] at this; exact this
              clear hl0
              go_wp2_with fail
              go_loopw [10] (fun i wi => ∃ j : Nat, j ≤ l0 ∧ i = .int .i64 j ∧ wr = wi) (fun i _ => l0 - (intOf i).toNat)
              case atStart => exact ⟨0, Nat.zero_le _, rfl, rfl⟩
              case round =>
                obtain ⟨j, hj, rfl, rfl⟩ := hrel
                obtain ⟨c1, cc, sr⟩ := HCs.out wr HL.out
                by_cases hl4 : j < l0
                · obtain ⟨ad, rfl, ce⟩ := sr.at j (by omega)
                  rw [HV1.out j hl4] at ce
                  have hj' : (j : Int) ≤ 16 := by omega
                  have hjf : j < fn := by omega
                  clear sr
                  go_wp2_with fail
                  go_roundw
                  case rel => exact ⟨j + 1, by omega, by go_num, trivial⟩
                  case measure => simp [intOf]; omega
                · clear sr cc
                  go_wp2_with fail
                  clear c1
                  go_loopw [11] (fun i wi => ∃ j : Nat, j ≤ 16 ∧ i = .int .i64 j ∧ Hid (LI w w1 w2 wi (some ⟨b, 0, none⟩) q c F X (some ld) m lc (lensL len0 q))) (fun i _ => 16 - (intOf i).toNat)
                  case atStart => exact ⟨0, Nat.zero_le _, rfl, HL⟩
                  case round =>
                    clear HL
                    obtain ⟨j, hj, rfl, HL⟩ := hrel
                    by_cases hl5 : j < 16
                    · obtain ⟨c1, cc, sr⟩ := HCs.out _ HL.out
                      obtain ⟨ad, rfl, ce⟩ := sr.at (l0 + j) (by omega)
                      rw [HV2.out j hl5] at ce
                      obtain ⟨x, hx⟩ : ∃ x, l0 + j = x := ⟨_, rfl⟩
                      have hx' : (l0 : Int) + (j : Int) = (x : Int) := by omega
                      rw [hx] at ce
                      have hxf : x < fn := by omega
                      clear sr hx
                      go_wp2_with fail
                      go_quiet (fail)
                      have HL2 := hide (HL.out.below (below_drewN _ nq))
                      clear HL c1 cc ce
                      go_wp2_with fail
                      go_roundw
                      case rel => exact ⟨j + 1, by omega, by go_num, HL2⟩
                      case measure => simp [intOf]; omega
                    · go_wp2_with fail
                      go_roundw
                      case rel => exact ⟨p + 1, by omega, by go_num, HL⟩
                      case measure => simp [intOf]; omega
            · go_wp2_with fail
              go_ret
              exact ⟨rfl, _, _, HL.out.l⟩
end Go.Proofs.Ytinicdnpkihbkaa
