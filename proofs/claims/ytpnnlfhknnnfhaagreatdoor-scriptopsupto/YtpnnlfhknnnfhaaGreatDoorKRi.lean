/- The reference's ParseOp. -/
import Derived.Test.YtpnnlfhknnnfhaaGreatDoorKRf
import Derived.OrdersHeld
namespace Go.Proofs.YtpnnlfhknnnfhaaGreatDoor
open Go.RowKit T Y V
variable {w w' w2 : World} {g : Nat}
attribute [local go_sem ↓] ldSh_eq stSh_eq ldO_eq stO_eq

theorem says_cut2 {u : List UInt8} (h : saysL u = true) : cutP u = cutR u := by
  unfold cutP
  rw [if_neg]
  intro h35
  unfold saysL at h
  cases hs : skipG u with
  | nil => rw [hs] at h35; cases h35
  | cons c t =>
    rw [hs] at h h35
    have := Option.some.inj h35
    subst this
    simp at h
theorem po_ten {T : List UInt8} {i : Nat} (hi : i < T.length) (h : T.getD i 0 = 10) : parseOpP T = none := by
  cases hq : parseOpP T with
  | none => rfl
  | some o => exact absurd h (parse_no10 hq _ (by simp [List.getD, hi]))
theorem po_silent {T : List UInt8} (h : saysL T = false) : parseOpP T = none := by
  unfold parseOpP
  rw [says_no h]
  rfl
set_option maxRecDepth 100000 in
set_option maxHeartbeats 6400000 in
theorem rparseOp_any (T : List UInt8) (hT : T.length ≤ 100000000000) (w : World) : Calls Tryz.prog 6 #[.string (bs T)] w fun e w' => PoA T e ∧ Below w.heap.size w w' := by
  obtain ⟨w1, hw1, hz1, hb1, hs1⟩ := zero_made w
  have HX1 := hide hz1
  have HB1 := hide hb1
  obtain ⟨s, hs⟩ : ∃ s, bs T = s := ⟨_, rfl⟩
  have hsz : s.size = T.length := by rw [← hs, bs_size]
  have hsb : s.size ≤ 100000000000 := by omega
  have HZ := hide hsz
  have HG : Hid (∀ i (h : i < s.size), s[i] = T.getD i 0) := by subst hs; exact bs_get _
  have HSil := hide (fun v => silent_any T hT v)
  have HCut := hide (rcut_any T (by omega) w1)
  obtain ⟨w9, hst9, hx9, k9⟩ := zero_put hz1
  have HX9 := hide hx9
  have HB9 : Hid (Below w.heap.size w w9) := hb1.trans (k9.below (Nat.le_refl _) hb1.size)
  rw [hs] at HSil HCut ⊢
  clear hz1 hb1 hs1 hs hsz hx9 k9
  go_enter Tryz.func6, Tryz.ntmps6
  go_wp2_with fail
  go_loop [4] (fun z => ∃ i : Nat, i ≤ s.size ∧ z = .int .i64 (i : Int)) (fun z => s.size - (intOf z).toNat)
  case atStart => exact ⟨0, by omega, rfl⟩
  case round =>
    obtain ⟨i, hi, rfl⟩ := hrel
    by_cases hlt : i < s.size
    · have hiI : (i : Int) < s.size := by omega
      obtain ⟨x, hx⟩ : ∃ x, s[i] = x := ⟨_, rfl⟩
      by_cases h10 : x = 10
      · have e10 : ((x.toNat : Int) == 10) = true := by rw [h10]; rfl
        have HE : Hid (parseOpP T = none) := po_ten (i := i) (by have := HZ.out; omega) (by rw [← HG.out i hlt, hx]; exact h10)
        clear h10
        go_wp2_with fail
        exact bodyPost_ret (res2O Tryz.results6 rfl rfl HX9.out) rfl ⟨PoA.no HE.out, HB9.out⟩
      · have e10 : ((x.toNat : Int) == 10) = false := (byteF 10 h10).1
        clear h10
        go_wp2_with fail
        go_round
        case rel => exact ⟨i + 1, by omega, by go_num⟩
        case measure => simp [intOf]; omega
    · have hiI : ¬ (i : Int) < s.size := by omega
      clear hst9 HX9 HB9 HG
      cases hc : cutR T with
      | none =>
        rw [hc] at HCut
        have HE : Hid (parseOpP T = none) := by
          cases hsy : saysL T with
          | false => exact po_silent hsy
          | true => show _ = _; unfold parseOpP; rw [says_cut2 hsy, hc]; rfl
        clear hc
        go_wp2_with fail
        refine HCut.out.mono ?_
        rintro e w3 ⟨he3, b3⟩
        obtain rfl : e = _ := he3
        have hx3 := HX1.out.below b3
        have HS3 := hide (HSil.out w3)
        obtain ⟨w5, hst5, hx5, k5⟩ := zero_put hx3
        have HX5 := hide hx5
        have bw3 := HB1.out.trans (b3.mono HB1.out.size)
        have HB5 : Hid (Below w.heap.size w w5) := bw3.trans (k5.below (Nat.le_refl _) bw3.size)
        clear hx3 hx5 k5 bw3 b3 HCut HSil
        cases hsy : saysL T with
        | false =>
          rw [hsy] at HS3
          clear hsy
          go_wp2_with fail
          refine HS3.out.mono ?_
          rintro e w4 ⟨rfl, rfl⟩
          clear HS3
          go_wp2_with fail
          exact bodyPost_ret (res2O Tryz.results6 rfl rfl HX5.out) rfl ⟨PoA.no HE.out, HB5.out⟩
        | true =>
          rw [hsy] at HS3
          clear hsy
          go_wp2_with fail
          refine HS3.out.mono ?_
          rintro e w4 ⟨rfl, rfl⟩
          clear HS3
          go_wp2_with fail
          exact bodyPost_ret (res2O Tryz.results6 rfl rfl HX5.out) rfl ⟨PoA.no HE.out, HB5.out⟩
      | some ws =>
        rw [hc] at HCut
        cases hsy : saysL T with
        | false =>
          have HE : Hid (parseOpP T = none) := po_silent hsy
          go_wp2_with fail
          refine HCut.out.mono ?_
          rintro e w3 ⟨he3, b3⟩
          obtain ⟨bo, m, d, rfl, -, -⟩ := CutA.yes he3
          have hx3 := HX1.out.below b3
          have HS3 := hide (HSil.out w3)
          rw [hsy] at HS3
          obtain ⟨w5, hst5, hx5, k5⟩ := zero_put hx3
          have HX5 := hide hx5
          have bw3 := HB1.out.trans (b3.mono HB1.out.size)
          have HB5 : Hid (Below w.heap.size w w5) := bw3.trans (k5.below (Nat.le_refl _) bw3.size)
          clear hx3 hx5 k5 bw3 b3 HCut HSil hsy he3 hc
          go_wp2_with fail
          refine HS3.out.mono ?_
          rintro e w4 ⟨rfl, rfl⟩
          clear HS3
          go_wp2_with fail
          exact bodyPost_ret (res2O Tryz.results6 rfl rfl HX5.out) rfl ⟨PoA.no HE.out, HB5.out⟩
        | true =>
          have hcp := says_cut2 hsy
          rw [hc] at hcp
          have hbd := cutP_bound hcp
          have HE : Hid (parseOpP T = stepP ws) := by show _ = _; unfold parseOpP; rw [hcp]; rfl
          have HH : Hid (∀ bo m d v, SR v bo m d (ws.map bs) → Calls Tryz.prog 12 #[.slice bo m d] v fun e w' => StA ws e ∧ Below v.heap.size v w') := fun bo m d v hR => rstep_any bo m d ws v hR (by have h1 := hR.len; rw [List.length_map] at h1; omega) (fun l hl => by have := hbd.2 l hl; omega)
          unfold StA at HH
          obtain ⟨o, ho⟩ : ∃ o, (stepP ws).getD sp0 = o := ⟨_, rfl⟩
          rw [ho] at HH
          go_wp2_with fail
          refine HCut.out.mono ?_
          rintro e w3 ⟨he3, b3⟩
          obtain ⟨bo, m, d, rfl, hR3, -⟩ := CutA.yes he3
          have HX3 := hide (HX1.out.below b3)
          have HS3 := hide (HSil.out w3)
          rw [hsy] at HS3
          have HB3 := hide (HB1.out.trans (b3.mono HB1.out.size))
          have HH3 := hide (HH.out bo m d w3 hR3)
          clear b3 HCut HSil hsy he3 hc hcp hbd HH hR3
          cases hq : stepP ws with
          | none =>
            rw [hq] at HH3 HE ho
            clear hq
            go_wp2_with fail
            refine HS3.out.mono ?_
            rintro e w4 ⟨rfl, rfl⟩
            clear HS3
            go_wp2_with fail
            refine HH3.out.mono ?_
            rintro e w5 ⟨rfl, b5⟩
            obtain ⟨w6, hst6, hx6, b6, -⟩ := madeO w5 o w5.heap.size rfl
            have hst6' : (stO (.pointer (some ⟨w5.heap.size, 0, none⟩)) (.agg (OC o))).run Tryz.prog (w5.alloc (.cells #[.int .i64 0, .int .i64 0, .int .i64 0, .int .i64 0, .string ⟨#[]⟩, .int .i64 0, .int .i64 0] 24)) = .ok () w6 := hst6
            obtain ⟨w7, hst7, hx7, k7⟩ := zero_put ((HX3.out.below b5).below b6)
            have HX7 := hide hx7
            have bw5 := HB3.out.trans (b5.mono HB3.out.size)
            have bw6 := bw5.trans (b6.mono bw5.size)
            have HB7 : Hid (Below w.heap.size w w7) := bw6.trans (k7.below (Nat.le_refl _) bw6.size)
            clear hst6 hx6 b6 b5 hx7 k7 bw5 bw6 HH3
            go_wp2_with fail
            exact bodyPost_ret (res2O Tryz.results6 rfl rfl HX7.out) rfl ⟨PoA.no HE.out, HB7.out⟩
          | some o2 =>
            rw [hq] at HH3 HE ho
            have e2 : o2 = o := ho
            rw [e2] at HE
            clear hq e2 ho
            go_wp2_with fail
            refine HS3.out.mono ?_
            rintro e w4 ⟨rfl, rfl⟩
            clear HS3
            go_wp2_with fail
            refine HH3.out.mono ?_
            rintro e w5 ⟨rfl, b5⟩
            obtain ⟨w6, hst6, hx6, b6, -⟩ := madeO w5 o w5.heap.size rfl
            have hst6' : (stO (.pointer (some ⟨w5.heap.size, 0, none⟩)) (.agg (OC o))).run Tryz.prog (w5.alloc (.cells #[.int .i64 0, .int .i64 0, .int .i64 0, .int .i64 0, .string ⟨#[]⟩, .int .i64 0, .int .i64 0] 24)) = .ok () w6 := hst6
            have hld6 := run_ldO hx6
            obtain ⟨w7, hst7, hx7, k7⟩ := op_put (o := o) ((HX3.out.below b5).below b6)
            have HX7 := hide hx7
            have bw5 := HB3.out.trans (b5.mono HB3.out.size)
            have bw6 := bw5.trans (b6.mono bw5.size)
            have HB7 : Hid (Below w.heap.size w w7) := bw6.trans (k7.below (Nat.le_refl _) bw6.size)
            clear hst6 hx6 b6 b5 hx7 k7 bw5 bw6 HH3
            go_wp2_with fail
            exact bodyPost_ret (res2O Tryz.results6 rfl rfl HX7.out) rfl ⟨PoA.yes HE.out, HB7.out⟩
end Go.Proofs.YtpnnlfhknnnfhaaGreatDoor
