/- The reference's cut. -/
import Derived.Test.YtpnnlfhknnnfhaaGreatDoorKRa
namespace Go.Proofs.YtpnnlfhknnnfhaaGreatDoor
open Go.RowKit T Y V
variable {w w' w2 : World} {g : Nat}

theorem drop_at {L : List UInt8} {i : Nat} (h : i < L.length) : L.drop i = L.getD i 0 :: L.drop (i + 1) := by
  rw [List.drop_eq_getElem_cons h]
  simp [List.getD, h]
theorem skip_yes {L : List UInt8} {i : Nat} (h : i < L.length) (hg : gapB (L.getD i 0) = true) : skipG (L.drop i) = skipG (L.drop (i + 1)) := by
  unfold skipG
  rw [drop_at h, List.dropWhile_cons_of_pos hg]
theorem skip_no {L : List UInt8} {i : Nat} (h : i < L.length) (hg : gapB (L.getD i 0) = false) : skipG (L.drop i) = L.drop i := by
  unfold skipG
  rw [drop_at h, List.dropWhile_cons_of_neg (by rw [hg]; simp)]
theorem cutR_of {a b : List UInt8} (h : skipG a = skipG b) : cutR a = cutR b := by rw [cutR, h, ← cutR]
/-- how many bytes stand ahead of the next gap -/
def nog (L : List UInt8) (i : Nat) : Nat := ((L.drop i).takeWhile (fun c => !gapB c)).length
theorem nog_end {L : List UInt8} {i : Nat} (h : L.length ≤ i) : nog L i = 0 := by unfold nog; rw [List.drop_eq_nil_of_le h]; rfl
theorem nog_yes {L : List UInt8} {i : Nat} (h : i < L.length) (hg : gapB (L.getD i 0) = true) : nog L i = 0 := by
  unfold nog
  rw [drop_at h, List.takeWhile_cons_of_neg (by rw [hg]; simp)]
  rfl
theorem nog_no {L : List UInt8} {i : Nat} (h : i < L.length) (hg : gapB (L.getD i 0) = false) : nog L i = nog L (i + 1) + 1 := by
  unfold nog
  rw [drop_at h, List.takeWhile_cons_of_pos (by rw [hg]; simp)]
  rfl
theorem wlen_plain {L : List UInt8} {f : Nat} (h : f < L.length) (hq : L.getD f 0 ≠ 34) : wlen (L.drop f) = some (f + 1 - f + nog L (f + 1)) := by
  rw [drop_at h]
  unfold wlen
  simp only
  rw [if_neg hq]
  unfold nog
  congr 1
  omega
theorem index_none {c : UInt8} : ∀ {l : List UInt8}, (∀ d ∈ l, d ≠ c) → Lib.indexByte l c = -1
  | [], _ => by simp [Lib.indexByte]
  | d :: l, h => by
    have ih := index_none (c := c) (l := l) fun x hx => h x (by simp [hx])
    rw [Lib.indexByte, if_neg (by simpa using h d (by simp)), ih]
    rfl
theorem wlen_open {L : List UInt8} {f : Nat} (h : f < L.length) (hq : L.getD f 0 = 34) (hn : ∀ j, f < j → j < L.length → L.getD j 0 ≠ 34) : wlen (L.drop f) = none := by
  rw [drop_at h]
  unfold wlen
  simp only
  have hx : Lib.indexByte (L.drop (f + 1)) 34 = -1 := index_none fun d hd => by
    obtain ⟨k, hk, e⟩ := List.getElem_of_mem hd
    have hk2 : k < L.length - (f + 1) := by simpa using hk
    have := hn (f + 1 + k) (by omega) (by omega)
    rw [← e, List.getElem_drop]
    rwa [List.getD, List.getElem?_eq_getElem (by omega)] at this
  rw [if_pos hq, hx, if_pos (by omega)]
theorem wlen_shut {L : List UInt8} {f i : Nat} (hfi : f < i) (h : i < L.length) (hq : L.getD f 0 = 34) (hn : ∀ j, f < j → j < i → L.getD j 0 ≠ 34) (hi : L.getD i 0 = 34) :
    wlen (L.drop f) = if i + 1 = L.length ∨ gapB (L.getD (i + 1) 0) = true then some (i + 1 - f) else none := by
  have hx : Lib.indexByte (L.drop (f + 1)) 34 = ((i - f - 1 : Nat) : Int) := by
    have e : L.drop (f + 1) = (L.drop (f + 1)).take (i - f - 1) ++ 34 :: L.drop (i + 1) := by
      conv => lhs; rw [← List.take_append_drop (i - f - 1) (L.drop (f + 1))]
      rw [List.drop_drop, show f + 1 + (i - f - 1) = i by omega, drop_at h, hi]
    rw [e, indexByte_app]
    · rw [List.length_take, List.length_drop]
      congr 1
      omega
    · intro d hd
      obtain ⟨k, hk, e⟩ := List.getElem_of_mem hd
      have hk2 : k < i - f - 1 := by
        rw [List.length_take] at hk
        omega
      rw [← e, List.getElem_take, List.getElem_drop]
      have := hn (f + 1 + k) (by omega) (by omega)
      rwa [List.getD, List.getElem?_eq_getElem (by omega)] at this
  rw [drop_at (by omega : f < L.length)]
  unfold wlen
  simp only
  rw [if_pos hq, hx, if_neg (by omega), Int.toNat_natCast]
  have e2 : (L.getD f 0 :: L.drop (f + 1)).getD (i - f - 1 + 2) 0 = L.getD (i + 1) 0 := by
    rw [← drop_at (by omega : f < L.length), List.getD, List.getD, List.getElem?_drop]
    congr 2
    omega
  rw [e2, List.length_drop]
  by_cases hc : i + 1 = L.length ∨ gapB (L.getD (i + 1) 0) = true
  · rw [if_pos hc, if_pos (hc.imp (fun h => by omega) id)]
    congr 1
    omega
  · rw [if_neg hc, if_neg (fun hh => hc (hh.imp (fun h => by omega) id))]
theorem cutR_word {L : List UInt8} {f i : Nat} {Z : List (List UInt8)} {X : Option (List (List UInt8))} (hX : X = (cutR (L.drop f)).map (Z ++ ·)) (hs : skipG (L.drop f) = L.drop f) (hfi : f ≤ i) (hw : wlen (L.drop f) = some (i - f)) : X = (cutR (L.drop i)).map ((Z ++ [(L.take i).drop f]) ++ ·) := by
  rw [hX, cutR_some hs hw, List.drop_drop, show f + (i - f) = i by omega, Option.map_map]
  have e : (L.drop f).take (i - f) = (L.take i).drop f := by rw [List.drop_take]
  rw [e]
  congr 1
  funext y
  simp
theorem cutR_fail {L : List UInt8} {f : Nat} {Z : List (List UInt8)} {X : Option (List (List UInt8))} (hX : X = (cutR (L.drop f)).map (Z ++ ·)) (hf : f < L.length) (hs : skipG (L.drop f) = L.drop f) (hw : wlen (L.drop f) = none) : X = none := by
  rw [hX, cutR_none hs (by rw [drop_at hf]; simp) hw]
  rfl
set_option maxRecDepth 100000 in
set_option maxHeartbeats 6400000 in
theorem rcut_any (L : List UInt8) (hl : L.length ≤ 1000000000000) (w : World) : Calls Tryz.prog 10 #[.string (bs L)] w fun e w' => CutA w w' (cutR L) e ∧ Below w.heap.size w w' := by
  obtain ⟨s, hs⟩ : ∃ s, bs L = s := ⟨_, rfl⟩
  have hsz : s.size = L.length := by rw [← hs, bs_size]
  have hsb : s.size ≤ 1000000000000 := by omega
  have HZ := hide hsz
  have HG : Hid (∀ i (h : i < s.size), s[i] = L.getD i 0) := by subst hs; exact bs_get _
  have HX : Hid (∀ a b, s.extract a b = bs ((L.take b).drop a)) := by subst hs; exact bs_cut _
  have HC := hide (fun (x : UInt8) (v : World) => rgap_any x v)
  rw [hs]
  clear hs hsz hl
  go_enter Tryz.func10, Tryz.ntmps10
  go_wp2_with fail
  go_loopw [4, 5] (fun t v wr => ∃ (bo : Option Addr) (n c : Nat) (Z : List (List UInt8)) (i : Nat), t = .slice bo n c ∧ v = .int .i64 (i : Int) ∧ i ≤ s.size ∧ n ≤ i ∧ Hid (SR wr bo n c (Z.map bs)) ∧ Hid (cutR L = (cutR (L.drop i)).map (Z ++ ·)) ∧ Hid (Below w.heap.size w wr) ∧ Hid (∀ k, blk bo = some k → w.heap.size ≤ k)) (fun _ v _ => s.size + 1 - (intOf v).toNat)
  case atStart => exact ⟨none, 0, 0, [], 0, rfl, rfl, by omega, by omega, SR.nil _, (by show _ = _; simp), Below.refl _ _, (fun k hk => by cases hk)⟩
  case round =>
    obtain ⟨bo, n, c, Z, i0, rfl, rfl, hi0, hn, HR, HE0, HB, HF⟩ := hrel
    go_wp2_with fail
    go_loop [5] (fun z => ∃ i : Nat, i0 ≤ i ∧ i ≤ s.size ∧ z = .int .i64 (i : Int) ∧ Hid (skipG (L.drop i0) = skipG (L.drop i))) (fun z => s.size - (intOf z).toNat)
    case atStart => exact ⟨i0, by omega, by omega, rfl, rfl⟩
    case round =>
      obtain ⟨i, hii, hi, rfl, HS⟩ := hrel
      by_cases hlt : i < s.size
      · obtain ⟨x, hx⟩ : ∃ x, s[i] = x := ⟨_, rfl⟩
        have Hx : Hid (L.getD i 0 = x) := by show _ = _; rw [← hx, HG.out i hlt]
        have hiI : (i : Int) < s.size := by omega
        have hiL : Hid (i < L.length) := by show _ < _; have := HZ.out; omega
        have hC := HC.out x wr
        cases hg : gapB x with
        | true =>
          rw [hg] at hC
          have HC2 := hide hC
          have HS2 : Hid (skipG (L.drop i0) = skipG (L.drop (i + 1))) := by show _ = _; rw [HS.out, skip_yes hiL.out (by rw [Hx.out]; exact hg)]
          clear hg hC
          go_wp2_with fail
          refine HC2.out.mono ?_
          rintro r w3 ⟨rfl, rfl⟩
          go_wp2_with fail
          go_round
          case rel => exact ⟨i + 1, by omega, by omega, by go_num, HS2⟩
          case measure => simp [intOf]; omega
        | false =>
          rw [hg] at hC
          have HC2 := hide hC
          have HK : Hid (skipG (L.drop i) = L.drop i) := skip_no hiL.out (by rw [Hx.out]; exact hg)
          have HE : Hid (cutR L = (cutR (L.drop i)).map (Z ++ ·)) := by show _ = _; rw [HE0.out, cutR_of HS.out]
          clear hg hC HE0 HS
          have hgi : decide (s.size ≤ i) = false := by simp; omega
          by_cases hq : x = 34
          · have e34 : ((x.toNat : Int) == 34) = true := by rw [hq]; rfl
            have Hq : Hid (L.getD i 0 = 34) := by show _ = _; rw [Hx.out]; exact hq
            clear hq Hx
            go_wp2_with fail
            refine HC2.out.mono ?_
            rintro r w3 ⟨rfl, rfl⟩
            clear HC2
            go_wp2_with fail
            go_loop [5] (fun z => ∃ j : Nat, i < j ∧ j ≤ s.size ∧ z = .int .i64 (j : Int) ∧ Hid (∀ q, i < q → q < j → L.getD q 0 ≠ 34)) (fun z => s.size - (intOf z).toNat)
            case atStart => exact ⟨i + 1, by omega, by omega, by go_num, (fun q h1 h2 => by omega)⟩
            case round =>
              obtain ⟨j, hij, hj, rfl, HN⟩ := hrel
              by_cases hjl : j < s.size
              · obtain ⟨y, hy⟩ : ∃ y, s[j] = y := ⟨_, rfl⟩
                have Hy : Hid (L.getD j 0 = y) := by show _ = _; rw [← hy, HG.out j hjl]
                have hjI : (j : Int) < s.size := by omega
                by_cases hyq : y = 34
                · have n34 : ((y.toNat : Int) != 34) = false := by rw [hyq]; rfl
                  have HW : Hid (wlen (L.drop i) = if j + 1 = L.length ∨ gapB (L.getD (j + 1) 0) = true then some (j + 1 - i) else none) := wlen_shut hij (by have := HZ.out; omega) Hq.out HN.out (by rw [Hy.out]; exact hyq)
                  clear hyq Hy HN
                  have hgj : decide (s.size ≤ j) = false := by simp; omega
                  by_cases hj1 : j + 1 < s.size
                  · obtain ⟨u, hu⟩ : ∃ u, s[j + 1] = u := ⟨_, rfl⟩
                    have Hu : Hid (L.getD (j + 1) 0 = u) := by show _ = _; rw [← hu, HG.out (j + 1) hj1]
                    have hC := HC.out u w3
                    obtain ⟨m, hm⟩ : ∃ m, j + 1 = m := ⟨_, rfl⟩
                    have hmI : (m : Int) < s.size := by omega
                    have hms : m < s.size := by omega
                    have hmw : (j : Int) + 1 = (m : Int) := by omega
                    have hum : s[m] = u := by subst hm; exact hu
                    rw [hm] at HW Hu
                    have him : i < m := by omega
                    clear hu
                    cases hg : gapB u with
                    | false =>
                      rw [hg] at hC
                      have HC2 := hide hC
                      have HE2 : Hid (cutR L = none) := cutR_fail HE.out hiL.out HK.out (by rw [HW.out, if_neg]; rw [Hu.out, hg]; have := HZ.out; exact fun h => h.elim (fun h => by omega) (fun h => by cases h))
                      clear hg hC HW Hu hj1 hm
                      go_wp2_with fail
                      refine HC2.out.mono ?_
                      rintro r w4 ⟨rfl, rfl⟩
                      go_wp2_with fail
                      go_ret2
                      refine ⟨?_, HB.out⟩
                      rw [HE2.out]
                      rfl
                    | true =>
                      rw [hg] at hC
                      have HC2 := hide hC
                      have HW2 : Hid (wlen (L.drop i) = some (m - i + nog L m)) := by
                        show _ = _
                        rw [HW.out, if_pos (Or.inr (by rw [Hu.out]; exact hg)), nog_yes (by have := HZ.out; omega) (by rw [Hu.out]; exact hg)]
                        rfl
                      clear hg hC HW Hu hj1 hm
                      go_wp2_with fail
                      refine HC2.out.mono ?_
                      rintro r w4 ⟨rfl, rfl⟩
                      clear HC2
                      go_wp2_with fail
                      clear hmw hum hmI
                      replace hms : m ≤ s.size := by omega
                      go_loop [5] (fun z => ∃ p : Nat, m ≤ p ∧ p ≤ s.size ∧ z = .int .i64 (p : Int) ∧ Hid (wlen (L.drop i) = some (p - i + nog L p))) (fun z => s.size - (intOf z).toNat)
                      case atStart => exact ⟨m, by omega, by omega, by first | rfl | go_num, HW2⟩
                      case round =>
                        obtain ⟨p, hmp, hps, rfl, HW⟩ := hrel
                        by_cases hpl : p < s.size
                        · obtain ⟨v, hv⟩ : ∃ v, s[p] = v := ⟨_, rfl⟩
                          have Hv : Hid (L.getD p 0 = v) := by show _ = _; rw [← hv, HG.out p hpl]
                          have hpI0 : (p : Int) < s.size := by omega
                          have hpL : Hid (p < L.length) := by show _ < _; have := HZ.out; omega
                          have hC := HC.out v w4
                          cases hg : gapB v with
                          | false =>
                            rw [hg] at hC
                            have HC2 := hide hC
                            have HW3 : Hid (wlen (L.drop i) = some (p + 1 - i + nog L (p + 1))) := by
                              show _ = _
                              rw [HW.out, nog_no hpL.out (by rw [Hv.out]; exact hg)]
                              congr 1
                              omega
                            clear hg hC HW
                            go_wp2_with fail
                            refine HC2.out.mono ?_
                            rintro r w6 ⟨rfl, rfl⟩
                            go_wp2_with fail
                            go_round
                            case rel => exact ⟨p + 1, by omega, by omega, by go_num, HW3⟩
                            case measure => simp [intOf]; omega
                          | true =>
                            rw [hg] at hC
                            have HC2 := hide hC
                            have HW3 : Hid (wlen (L.drop i) = some (p - i)) := by
                              show _ = _
                              rw [HW.out, nog_yes hpL.out (by rw [Hv.out]; exact hg)]
                              rfl
                            clear hg hC HW
                            obtain ⟨W1, hW1⟩ : ∃ W1, (L.take p).drop i = W1 := ⟨_, rfl⟩
                            have hx1 : s.extract i p = bs W1 := by rw [HX.out, hW1]
                            have HE3 : Hid (cutR L = (cutR (L.drop p)).map ((Z ++ [W1]) ++ ·)) := by show _ = _; rw [← hW1]; exact cutR_word HE.out HK.out (by omega) HW3.out
                            have hipI : (i : Int) ≤ (p : Int) := by omega
                            have hpI : (p : Int) ≤ s.size := by omega
                            clear hW1 HW3
                            have HA1 : Hid (p ≤ s.size ∧ n + 1 ≤ p ∧ s.size + 1 - p < s.size + 1 - i0) := by show _ ∧ _; omega
                            go_wp2_with fail
                            refine HC2.out.mono ?_
                            rintro r w6 ⟨rfl, rfl⟩
                            clear HC2
                            have hn1 : n + 1 ≤ 1000000000001 := by omega
                            clear hmp hps hii hi0
                            go_wp2_with (at_builtin; (try rw [hx1]); refine HR.out.app1 (bs W1) (Nat.le_trans hn1 (by omega)) rfl (.tmp 75) (.tmp 80) rfl rfl rfl ?_; intro b3 q3 w5 R3 A3; have HB3 := hide (below_ap HB.out HB.out.size A3 HF.out); have HF3 := hide (fresh_step A3 HB.out.size HF.out); have HR3 := hide R3; clear R3 A3)
                            go_roundw
                            case rel => exact ⟨b3, n + 1, q3, Z ++ [W1], p, rfl, rfl, HA1.out.1, HA1.out.2.1, by show SR _ _ _ _ _; rw [List.map_append]; exact HR3.out, HE3, HB3, HF3⟩
                            case measure => simp [intOf]; exact HA1.out.2.2
                        · have hpI0 : ¬ (p : Int) < s.size := by omega
                          have HW3 : Hid (wlen (L.drop i) = some (p - i)) := by
                            show _ = _
                            rw [HW.out, nog_end (by have := HZ.out; omega)]
                            rfl
                          clear HW
                          obtain ⟨W1, hW1⟩ : ∃ W1, (L.take p).drop i = W1 := ⟨_, rfl⟩
                          have hx1 : s.extract i p = bs W1 := by rw [HX.out, hW1]
                          have HE3 : Hid (cutR L = (cutR (L.drop p)).map ((Z ++ [W1]) ++ ·)) := by show _ = _; rw [← hW1]; exact cutR_word HE.out HK.out (by omega) HW3.out
                          have hipI : (i : Int) ≤ (p : Int) := by omega
                          have hpI : (p : Int) ≤ s.size := by omega
                          clear hW1 HW3
                          have HA1 : Hid (p ≤ s.size ∧ n + 1 ≤ p ∧ s.size + 1 - p < s.size + 1 - i0) := by show _ ∧ _; omega
                          have hn1 : n + 1 ≤ 1000000000001 := by omega
                          clear hmp hps hii hi0
                          go_wp2_with (at_builtin; (try rw [hx1]); refine HR.out.app1 (bs W1) (Nat.le_trans hn1 (by omega)) rfl (.tmp 75) (.tmp 80) rfl rfl rfl ?_; intro b3 q3 w5 R3 A3; have HB3 := hide (below_ap HB.out HB.out.size A3 HF.out); have HF3 := hide (fresh_step A3 HB.out.size HF.out); have HR3 := hide R3; clear R3 A3)
                          go_roundw
                          case rel => exact ⟨b3, n + 1, q3, Z ++ [W1], p, rfl, rfl, HA1.out.1, HA1.out.2.1, by show SR _ _ _ _ _; rw [List.map_append]; exact HR3.out, HE3, HB3, HF3⟩
                          case measure => simp [intOf]; exact HA1.out.2.2
                  · obtain ⟨m, hm⟩ : ∃ m, j + 1 = m := ⟨_, rfl⟩
                    have hmw : (j : Int) + 1 = (m : Int) := by omega
                    have hmI : ¬ (m : Int) < s.size := by omega
                    rw [hm] at HW
                    have him : i < m := by omega
                    have hms : m ≤ s.size := by omega
                    have HW2 : Hid (wlen (L.drop i) = some (m - i + nog L m)) := by
                      show _ = _
                      have := HZ.out
                      rw [HW.out, if_pos (Or.inl (by omega)), nog_end (by omega)]
                      rfl
                    clear HW hj1 hm
                    go_wp2_with fail
                    clear hmw
                    go_loop [5] (fun z => ∃ p : Nat, m ≤ p ∧ p ≤ s.size ∧ z = .int .i64 (p : Int) ∧ Hid (wlen (L.drop i) = some (p - i + nog L p))) (fun z => s.size - (intOf z).toNat)
                    case atStart => exact ⟨m, by omega, by omega, by first | rfl | go_num, HW2⟩
                    case round =>
                      obtain ⟨p, hmp, hps, rfl, HW⟩ := hrel
                      by_cases hpl : p < s.size
                      · obtain ⟨v, hv⟩ : ∃ v, s[p] = v := ⟨_, rfl⟩
                        have Hv : Hid (L.getD p 0 = v) := by show _ = _; rw [← hv, HG.out p hpl]
                        have hpI0 : (p : Int) < s.size := by omega
                        have hpL : Hid (p < L.length) := by show _ < _; have := HZ.out; omega
                        have hC := HC.out v w3
                        cases hg : gapB v with
                        | false =>
                          rw [hg] at hC
                          have HC2 := hide hC
                          have HW3 : Hid (wlen (L.drop i) = some (p + 1 - i + nog L (p + 1))) := by
                            show _ = _
                            rw [HW.out, nog_no hpL.out (by rw [Hv.out]; exact hg)]
                            congr 1
                            omega
                          clear hg hC HW
                          go_wp2_with fail
                          refine HC2.out.mono ?_
                          rintro r w6 ⟨rfl, rfl⟩
                          go_wp2_with fail
                          go_round
                          case rel => exact ⟨p + 1, by omega, by omega, by go_num, HW3⟩
                          case measure => simp [intOf]; omega
                        | true =>
                          rw [hg] at hC
                          have HC2 := hide hC
                          have HW3 : Hid (wlen (L.drop i) = some (p - i)) := by
                            show _ = _
                            rw [HW.out, nog_yes hpL.out (by rw [Hv.out]; exact hg)]
                            rfl
                          clear hg hC HW
                          obtain ⟨W1, hW1⟩ : ∃ W1, (L.take p).drop i = W1 := ⟨_, rfl⟩
                          have hx1 : s.extract i p = bs W1 := by rw [HX.out, hW1]
                          have HE3 : Hid (cutR L = (cutR (L.drop p)).map ((Z ++ [W1]) ++ ·)) := by show _ = _; rw [← hW1]; exact cutR_word HE.out HK.out (by omega) HW3.out
                          have hipI : (i : Int) ≤ (p : Int) := by omega
                          have hpI : (p : Int) ≤ s.size := by omega
                          clear hW1 HW3
                          have HA1 : Hid (p ≤ s.size ∧ n + 1 ≤ p ∧ s.size + 1 - p < s.size + 1 - i0) := by show _ ∧ _; omega
                          go_wp2_with fail
                          refine HC2.out.mono ?_
                          rintro r w6 ⟨rfl, rfl⟩
                          clear HC2
                          have hn1 : n + 1 ≤ 1000000000001 := by omega
                          clear hmp hps hii hi0
                          go_wp2_with (at_builtin; (try rw [hx1]); refine HR.out.app1 (bs W1) (Nat.le_trans hn1 (by omega)) rfl (.tmp 75) (.tmp 80) rfl rfl rfl ?_; intro b3 q3 w5 R3 A3; have HB3 := hide (below_ap HB.out HB.out.size A3 HF.out); have HF3 := hide (fresh_step A3 HB.out.size HF.out); have HR3 := hide R3; clear R3 A3)
                          go_roundw
                          case rel => exact ⟨b3, n + 1, q3, Z ++ [W1], p, rfl, rfl, HA1.out.1, HA1.out.2.1, by show SR _ _ _ _ _; rw [List.map_append]; exact HR3.out, HE3, HB3, HF3⟩
                          case measure => simp [intOf]; exact HA1.out.2.2
                      · have hpI0 : ¬ (p : Int) < s.size := by omega
                        have HW3 : Hid (wlen (L.drop i) = some (p - i)) := by
                          show _ = _
                          rw [HW.out, nog_end (by have := HZ.out; omega)]
                          rfl
                        clear HW
                        obtain ⟨W1, hW1⟩ : ∃ W1, (L.take p).drop i = W1 := ⟨_, rfl⟩
                        have hx1 : s.extract i p = bs W1 := by rw [HX.out, hW1]
                        have HE3 : Hid (cutR L = (cutR (L.drop p)).map ((Z ++ [W1]) ++ ·)) := by show _ = _; rw [← hW1]; exact cutR_word HE.out HK.out (by omega) HW3.out
                        have hipI : (i : Int) ≤ (p : Int) := by omega
                        have hpI : (p : Int) ≤ s.size := by omega
                        clear hW1 HW3
                        have HA1 : Hid (p ≤ s.size ∧ n + 1 ≤ p ∧ s.size + 1 - p < s.size + 1 - i0) := by show _ ∧ _; omega
                        have hn1 : n + 1 ≤ 1000000000001 := by omega
                        clear hmp hps hii hi0
                        go_wp2_with (at_builtin; (try rw [hx1]); refine HR.out.app1 (bs W1) (Nat.le_trans hn1 (by omega)) rfl (.tmp 75) (.tmp 80) rfl rfl rfl ?_; intro b3 q3 w5 R3 A3; have HB3 := hide (below_ap HB.out HB.out.size A3 HF.out); have HF3 := hide (fresh_step A3 HB.out.size HF.out); have HR3 := hide R3; clear R3 A3)
                        go_roundw
                        case rel => exact ⟨b3, n + 1, q3, Z ++ [W1], p, rfl, rfl, HA1.out.1, HA1.out.2.1, by show SR _ _ _ _ _; rw [List.map_append]; exact HR3.out, HE3, HB3, HF3⟩
                        case measure => simp [intOf]; exact HA1.out.2.2
                · have n34 : ((y.toNat : Int) != 34) = true := (byteF 34 hyq).2.1
                  have HN2 : Hid (∀ q, i < q → q < j + 1 → L.getD q 0 ≠ 34) := fun q h1 h2 => by
                    by_cases hqj : q = j
                    · subst hqj; rw [Hy.out]; exact hyq
                    · exact HN.out q h1 (by omega)
                  clear hyq Hy HN
                  go_wp2_with fail
                  go_round
                  case rel => exact ⟨j + 1, by omega, by omega, by go_num, HN2⟩
                  case measure => simp [intOf]; omega
              · have hjI : ¬ (j : Int) < s.size := by omega
                have hjg : (s.size : Int) ≤ (j : Int) := by omega
                have HE2 : Hid (cutR L = none) := cutR_fail HE.out hiL.out HK.out (wlen_open hiL.out Hq.out fun q h1 h2 => HN.out q h1 (by have := HZ.out; omega))
                go_wp2_with fail
                go_ret2
                refine ⟨?_, HB.out⟩
                rw [HE2.out]
                rfl
          · have e34 : ((x.toNat : Int) == 34) = false := (byteF 34 hq).1
            obtain ⟨m, hm⟩ : ∃ m, i + 1 = m := ⟨_, rfl⟩
            have hmw : (i : Int) + 1 = (m : Int) := by omega
            have HW2 : Hid (wlen (L.drop i) = some (m - i + nog L m)) := by
              show _ = _
              rw [← hm]
              exact wlen_plain hiL.out (by rw [Hx.out]; exact hq)
            have him : i < m := by omega
            have hms : m ≤ s.size := by omega
            clear hq Hx hm
            go_wp2_with fail
            refine HC2.out.mono ?_
            rintro r w3 ⟨rfl, rfl⟩
            clear HC2
            go_wp2_with fail
            clear hmw
            go_loop [5] (fun z => ∃ p : Nat, m ≤ p ∧ p ≤ s.size ∧ z = .int .i64 (p : Int) ∧ Hid (wlen (L.drop i) = some (p - i + nog L p))) (fun z => s.size - (intOf z).toNat)
            case atStart => exact ⟨m, by omega, by omega, by first | rfl | go_num, HW2⟩
            case round =>
              obtain ⟨p, hmp, hps, rfl, HW⟩ := hrel
              by_cases hpl : p < s.size
              · obtain ⟨v, hv⟩ : ∃ v, s[p] = v := ⟨_, rfl⟩
                have Hv : Hid (L.getD p 0 = v) := by show _ = _; rw [← hv, HG.out p hpl]
                have hpI0 : (p : Int) < s.size := by omega
                have hpL : Hid (p < L.length) := by show _ < _; have := HZ.out; omega
                have hC := HC.out v w3
                cases hg : gapB v with
                | false =>
                  rw [hg] at hC
                  have HC2 := hide hC
                  have HW3 : Hid (wlen (L.drop i) = some (p + 1 - i + nog L (p + 1))) := by
                    show _ = _
                    rw [HW.out, nog_no hpL.out (by rw [Hv.out]; exact hg)]
                    congr 1
                    omega
                  clear hg hC HW
                  go_wp2_with fail
                  refine HC2.out.mono ?_
                  rintro r w6 ⟨rfl, rfl⟩
                  go_wp2_with fail
                  go_round
                  case rel => exact ⟨p + 1, by omega, by omega, by go_num, HW3⟩
                  case measure => simp [intOf]; omega
                | true =>
                  rw [hg] at hC
                  have HC2 := hide hC
                  have HW3 : Hid (wlen (L.drop i) = some (p - i)) := by
                    show _ = _
                    rw [HW.out, nog_yes hpL.out (by rw [Hv.out]; exact hg)]
                    rfl
                  clear hg hC HW
                  obtain ⟨W1, hW1⟩ : ∃ W1, (L.take p).drop i = W1 := ⟨_, rfl⟩
                  have hx1 : s.extract i p = bs W1 := by rw [HX.out, hW1]
                  have HE3 : Hid (cutR L = (cutR (L.drop p)).map ((Z ++ [W1]) ++ ·)) := by show _ = _; rw [← hW1]; exact cutR_word HE.out HK.out (by omega) HW3.out
                  have hipI : (i : Int) ≤ (p : Int) := by omega
                  have hpI : (p : Int) ≤ s.size := by omega
                  clear hW1 HW3
                  have HA1 : Hid (p ≤ s.size ∧ n + 1 ≤ p ∧ s.size + 1 - p < s.size + 1 - i0) := by show _ ∧ _; omega
                  go_wp2_with fail
                  refine HC2.out.mono ?_
                  rintro r w6 ⟨rfl, rfl⟩
                  clear HC2
                  have hn1 : n + 1 ≤ 1000000000001 := by omega
                  clear hmp hps hii hi0
                  go_wp2_with (at_builtin; (try rw [hx1]); refine HR.out.app1 (bs W1) (Nat.le_trans hn1 (by omega)) rfl (.tmp 75) (.tmp 80) rfl rfl rfl ?_; intro b3 q3 w5 R3 A3; have HB3 := hide (below_ap HB.out HB.out.size A3 HF.out); have HF3 := hide (fresh_step A3 HB.out.size HF.out); have HR3 := hide R3; clear R3 A3)
                  go_roundw
                  case rel => exact ⟨b3, n + 1, q3, Z ++ [W1], p, rfl, rfl, HA1.out.1, HA1.out.2.1, by show SR _ _ _ _ _; rw [List.map_append]; exact HR3.out, HE3, HB3, HF3⟩
                  case measure => simp [intOf]; exact HA1.out.2.2
              · have hpI0 : ¬ (p : Int) < s.size := by omega
                have HW3 : Hid (wlen (L.drop i) = some (p - i)) := by
                  show _ = _
                  rw [HW.out, nog_end (by have := HZ.out; omega)]
                  rfl
                clear HW
                obtain ⟨W1, hW1⟩ : ∃ W1, (L.take p).drop i = W1 := ⟨_, rfl⟩
                have hx1 : s.extract i p = bs W1 := by rw [HX.out, hW1]
                have HE3 : Hid (cutR L = (cutR (L.drop p)).map ((Z ++ [W1]) ++ ·)) := by show _ = _; rw [← hW1]; exact cutR_word HE.out HK.out (by omega) HW3.out
                have hipI : (i : Int) ≤ (p : Int) := by omega
                have hpI : (p : Int) ≤ s.size := by omega
                clear hW1 HW3
                have HA1 : Hid (p ≤ s.size ∧ n + 1 ≤ p ∧ s.size + 1 - p < s.size + 1 - i0) := by show _ ∧ _; omega
                have hn1 : n + 1 ≤ 1000000000001 := by omega
                clear hmp hps hii hi0
                go_wp2_with (at_builtin; (try rw [hx1]); refine HR.out.app1 (bs W1) (Nat.le_trans hn1 (by omega)) rfl (.tmp 75) (.tmp 80) rfl rfl rfl ?_; intro b3 q3 w5 R3 A3; have HB3 := hide (below_ap HB.out HB.out.size A3 HF.out); have HF3 := hide (fresh_step A3 HB.out.size HF.out); have HR3 := hide R3; clear R3 A3)
                go_roundw
                case rel => exact ⟨b3, n + 1, q3, Z ++ [W1], p, rfl, rfl, HA1.out.1, HA1.out.2.1, by show SR _ _ _ _ _; rw [List.map_append]; exact HR3.out, HE3, HB3, HF3⟩
                case measure => simp [intOf]; exact HA1.out.2.2
      · have hiI : ¬ (i : Int) < s.size := by omega
        have hig : (s.size : Int) ≤ (i : Int) := by omega
        have HE2 : Hid (cutR L = some Z) := by
          show _ = _
          rw [HE0.out, cutR_of HS.out, List.drop_eq_nil_of_le (by have := HZ.out; omega), cutR_nil rfl]
          simp
        go_wp2_with fail
        go_ret2
        refine ⟨?_, HB.out⟩
        rw [HE2.out]
        exact ⟨bo, n, c, rfl, HR.out, HF.out⟩
end Go.Proofs.YtpnnlfhknnnfhaaGreatDoor
