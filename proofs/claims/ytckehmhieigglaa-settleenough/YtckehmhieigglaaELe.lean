/- SettleEnough: the law. -/
import Derived.Test.YtckehmhieigglaaEEc
import Derived.Test.YtckehmhieigglaaESh
namespace Go.Proofs.Ytckehmhieigglaa
open Go.RowKit
variable {w w' wA wB w9 wr w3 : World} {ao bo : Option Addr} {m c c2 k : Nat} {L M : List Pr}

theorem rsP_at (n k i : Nat) (hi : i < k) : (rsP n k).getD i [] = roundP n (2 ^ i) n := by
  induction k with
  | zero => omega
  | succ k ih =>
    have hl : ∀ k, (rsP n k).length = k := fun k => by
      induction k with
      | zero => rfl
      | succ k ih => rw [rsP, List.length_append, ih]; rfl
    rw [rsP]
    by_cases h : i < k
    · rw [getD_snoc_lt _ _ _ _ (by rw [hl]; exact h)]
      exact ih h
    · obtain rfl : i = k := by omega
      rw [getD_snoc_eq _ _ _ _ (hl i).symm]
/-- a row that grows beside what lies between wB and w9 -/
structure AL (wA wB w9 wr : World) (ao : Option Addr) (m c : Nat) (L : List Pr) : Prop where
  r : PR wr ao m c L
  a : NewB wA wr ao
  sep : ∀ k, blk ao = some k → k < wB.heap.size ∨ w9.heap.size ≤ k
  stay : Stay wB w9 wr
  sz : w9.heap.size ≤ wr.heap.size
theorem AL.begin (r : PR wB ao m c L) (a : NewB wA wB ao) (hb : Below wB.heap.size wB w9) : AL wA wB w9 w9 ao m c L :=
  ⟨r.below hb, a.below hb, fun k hk => Or.inl (r.lt k hk), fun _ _ _ => rfl, Nat.le_refl _⟩
theorem AL.below (h : AL wA wB w9 wr ao m c L) (hb : Below wr.heap.size wr w3) : AL wA wB w9 w3 ao m c L :=
  ⟨h.r.below hb, h.a.below hb, h.sep, fun k h1 h2 => (hb.block k (Nat.lt_of_lt_of_le h2 h.sz)).trans (h.stay k h1 h2), Nat.le_trans h.sz hb.size⟩
theorem AL.app (h : AL wA wB w9 wr ao m c L) (r : PR w3 bo k c2 M) (a : Ap wr w3 ao bo) : AL wA wB w9 w3 bo k c2 M :=
  ⟨r, h.a.ap a, fun k hk => by
    rcases a.lies with e | ⟨j, e, hj⟩
    · exact h.sep k (by rw [← e]; exact hk)
    · rw [e] at hk
      have := Option.some.inj hk
      have := h.sz
      omega, fun k h1 h2 => (a.grown.block k (Nat.lt_of_lt_of_le h2 h.sz) (fun e => by have := h.sep k e.symm; omega)).trans (h.stay k h1 h2), Nat.le_trans h.sz a.grown.size⟩
theorem PR.litB (hb : Below w.heap.size w wA) : PR (wA.alloc (.cells #[] 28)) (some ⟨wA.heap.size, 0, none⟩) 0 0 [] ∧ NewB w (wA.alloc (.cells #[] 28)) (some ⟨wA.heap.size, 0, none⟩) :=
  ⟨PR.lit wA, hb.trans ((below_new wA _).mono hb.size), fun k hk => by have := Option.some.inj hk; have := hb.size; simp only at *; omega⟩
attribute [local go_sem ↓] ldP_eq stP_eq
set_option maxRecDepth 100000 in
set_option maxHeartbeats 1600000 in
theorem settleEnough_any (r : Int) (ao : Option Addr) (n c : Nat) (L : List Pr) (po : Option Addr) (pn pc : Nat) (Z : List Int) (w : World) (S : PSrc w ao n c L) (hn : n ≤ 8796093021952) (Q : NSrc w po pn pc Z) : Calls Try.prog 7 #[.int .i64 r, .slice ao n c, .slice po pn pc] w fun e w' => e = .returned (.bool true) ∧ Below w.heap.size w w' := by
  have H1 : Hid (∀ w, Calls Try.prog 22 #[.int .i64 1, .slice none 0 0] w fun e w' => e = .returned (.bool true) ∧ Below w.heap.size w w') := fun w => by have := enough_any 1 none 0 0 [] w (PSrc.empty w) (by omega); rw [show clN 1 = 1 from rfl, en_one] at this; exact this
  have H2 : Hid (∀ w, Calls Try.prog 22 #[.int .i64 2, .slice none 0 0] w fun e w' => e = .returned (.bool false) ∧ Below w.heap.size w w') := fun w => by have := enough_any 2 none 0 0 [] w (PSrc.empty w) (by omega); rw [show clN 2 = 2 from rfl, en_two] at this; exact this
  obtain ⟨m0, hm0⟩ : ∃ m0, min 16 r = m0 := ⟨_, rfl⟩
  have hmn : ∀ (ts : Array TypeId) (t : TypeId) (w : World), (Builtin.min_ ts t #[.int .i64 16, .int .i64 r]).run Try.prog w = .ok (.int .i64 m0) w := fun ts t w => by rw [← hm0]; exact Lib.run_min_ints w ts t .i64 .i64 16 r
  have hmx : ∀ (ts : Array TypeId) (t : TypeId) (w : World), (Builtin.max_ ts t #[.int .i64 1, .int .i64 m0]).run Try.prog w = .ok (.int .i64 (clN r : Int)) w := fun ts t w => by rw [← clN_mm r m0 hm0]; exact Lib.run_max_ints w ts t .i64 .i64 1 m0
  have HE := hide (enough_any r)
  have HF := hide (refEnough_any r)
  have HP := hide (pairs_any r)
  have HR := hide (rounds_any r)
  have hk := (clN_le r).2
  have hk1 := (clN_le r).1
  obtain ⟨k, hkk⟩ : ∃ k, clN r = k := ⟨_, rfl⟩
  rw [hkk] at HE HF HP HR hk hk1 hmx
  unfold RnA at HR
  clear hm0 hkk
  obtain ⟨bL, hbL⟩ : ∃ bL, enB k L = bL := ⟨_, rfl⟩
  have HEL : Hid (∀ (bo : Option Addr) (cc : Nat) (w : World), PSrc w bo n cc L → Calls Try.prog 22 #[.int .i64 r, .slice bo n cc] w fun e w' => e = .returned (.bool bL) ∧ Below w.heap.size w w') := fun bo cc w S => by have := HE.out bo n cc L w S (by omega); rw [hbL] at this; exact this
  have HFL : Hid (∀ (bo : Option Addr) (cc : Nat) (w : World), QSrc w bo n cc (L.map toQ) → Calls Try.prog 23 #[.int .i64 r, .slice bo n cc] w fun e w' => e = .returned (.bool bL) ∧ Below w.heap.size w w') := fun bo cc w S => by have := HF.out bo n cc L w S (by omega); rw [hbL] at this; exact this
  have HPl : Hid ((pairsP k k).length ≤ 256) := pairs_room _ _ hk (Nat.le_refl _)
  have HET : Hid (∀ (bo : Option Addr) (mm cc : Nat) (M : List Pr) (w : World), PSrc w bo mm cc M → mm ≤ 1000000 → enB k M = true → Calls Try.prog 22 #[.int .i64 r, .slice bo mm cc] w fun e w' => e = .returned (.bool true) ∧ Below w.heap.size w w') := fun bo mm cc M w S h1 h2 => by have := HE.out bo mm cc M w S (by omega); rw [h2] at this; exact this
  have HS := hide S
  have HQ := hide Q
  clear S Q hbL HF
  have hbb : (bL != bL) = false := by cases bL <;> rfl
  go_enter Try.func7, Try.ntmps7
  go_wp2_with (first
    | (go_at_call_of 22 (Value.int .i64 1); refine (H1.out _).mono ?_; rintro e w1 ⟨rfl, b1⟩; have HB1 := hide b1; clear b1 H1)
    | (go_at_call_of 22 (Value.int .i64 2); refine (H2.out _).mono ?_; rintro e w2 ⟨rfl, b2⟩; have HB2 := hide (HB1.out.trans (b2.mono HB1.out.size)); have HS2 := hide (HS.out.below HB2.out); clear b2 H2 HB1)
    | (go_at_call 16; refine (copyPairs_any _ _ _ _ _ HS2.out (by omega)).mono ?_; rintro e w3 ⟨b3, c3, rfl, R3, N3⟩; have HR3 := hide R3; have HB3 := hide (HB2.out.trans (N3.1.mono HB2.out.size)); clear R3 N3 HB2 HS2)
    | (go_at_call 22; refine (HEL.out _ _ _ HR3.out.src).mono ?_; rintro e w4 ⟨rfl, b4⟩; have HB4 := hide (HB3.out.trans (b4.mono HB3.out.size)); have HS4 := hide (HS.out.below HB4.out); clear b4 HB3 HR3)
    | (go_at_call 18; refine (toRef_any _ _ _ _ _ HS4.out (by omega)).mono ?_; rintro e w5 ⟨b5, c5, rfl, R5, N5⟩; have HR5 := hide R5; have HB5 := hide (HB4.out.trans (N5.1.mono HB4.out.size)); clear R5 N5 HB4 HS4)
    | (go_at_call 23; refine (HFL.out _ _ _ HR5.out.src).mono ?_; rintro e w6 ⟨rfl, b6⟩; have HB6 := hide (HB5.out.trans (b6.mono HB5.out.size)); clear b6 HB5 HR5)
    | (go_at_call 9; refine (HP.out _).mono ?_; rintro e w7 ⟨b7, m7, c7, rfl, R7, N7⟩; have HR7 := hide R7; have HB7 := hide (HB6.out.trans (N7.1.mono HB6.out.size)); have HQ7 := hide (HQ.out.below HB7.out); clear R7 N7 HB6)
    | (go_at_call 24; refine (shuffled_any _ _ _ _ _ _ _ _ _ HR7.out.src HQ7.out (by have := HR7.out.len; have := HPl.out; omega)).mono ?_; rintro e w8 ⟨b8, c8, M8, rfl, R8, S8, N8⟩; have HR8 := hide R8; have HE8 := hide (en_all k hk M8 S8.2); have HB8 := hide (HB7.out.trans (N8.1.mono HB7.out.size)); have HM7 : Hid (m7 ≤ 1000000) := (by show _ ≤ _; have := HR7.out.len; have := HPl.out; omega); clear R8 N8 S8 HB7 HR7 HQ7)
    | (go_at_call 22; refine (HET.out _ _ _ _ _ HR8.out.src HM7.out HE8.out).mono ?_; rintro e w9 ⟨rfl, b9⟩; have HB9 := hide (HB8.out.trans (b9.mono HB8.out.size)); clear b9 HB8 HR8 HE8)
    | (go_at_call 12; refine (HR.out _).mono ?_; rintro e wa ⟨ba, ca, Fa, rfl, Ra⟩; obtain ⟨p1, p2⟩ := PR.litB HB9.out; have HAL := hide (AL.begin p1 p2 Ra.newo.1); have HRT := hide Ra.rt; clear p1 p2 Ra HR))
  obtain ⟨wB, hwB⟩ : ∃ wB, w9.alloc (.cells #[] 28) = wB := ⟨_, rfl⟩
  rw [hwB] at HAL HRT
  clear hwB HEL HFL hbb HB9
  have hc4 : cN k ≤ 4 := by unfold cN; (repeat' split) <;> omega
  have HCn : Hid (∀ i, i < cN k → (rsP k (cN k)).getD i [] = roundP k (2 ^ i) k) := rsP_at k (cN k)
  have HEr : Hid (∀ M, RndL k (cN k) M → enB k M = true) := en_rounds k hk
  have HLo : Hid (k ≤ cN k * k + 1) := rounds_long k hk hk1
  obtain ⟨cnt, hcnt⟩ : ∃ cnt, cN k = cnt := ⟨_, rfl⟩
  rw [hcnt] at HRT hc4 HCn HEr HLo ⊢
  clear hcnt
  go_loopw [7, 39] (fun p i wr => ∃ (q : Nat) (ro : Option Addr) (m cc : Nat) (M : List Pr), q ≤ cnt ∧ i = .int .i64 q ∧ p = .slice ro m cc ∧ Hid (RndL k q M) ∧ Hid (AL w wB wa wr ro m cc M)) (fun _ i _ => cnt - (intOf i).toNat)
  case atStart => exact ⟨0, _, 0, 0, [], Nat.zero_le _, rfl, rfl, RndL.nil, HAL⟩
  case round =>
    clear HAL
    obtain ⟨q, ro, m, cc, M, hq, rfl, rfl, HRn, HA⟩ := hrel
    by_cases hlt : q < cnt
    · obtain ⟨bb, fa, fn, fc, rfl, cq, sq⟩ := HRT.out.read HA.out.stay q hlt
      rw [HCn.out q hlt] at sq
      have hsq : PR wr fa fn fc (roundP k (2 ^ q) k) := sq
      obtain rfl : fn = k := by rw [← hsq.len, roundP_len]
      have HSh := hide (shuffled_any fa fn fc _ po pn pc Z wr hsq.src (HQ.out.below HA.out.a.1) (by omega))
      have HM : Hid (m + fn ≤ 8796093022108) := by
        show _ ≤ _
        have h1 := HA.out.r.len
        have h2 := HRn.out.len
        have h3 : q * fn ≤ 4 * 16 := Nat.mul_le_mul (by omega) hk
        omega
      clear sq hsq
      go_wp2_with (first
        | (go_at_call 24; refine HSh.out.mono ?_; rintro e wb ⟨bs, cs, Ms, rfl, Rs, Ss, Ns⟩; have HAb := hide (HA.out.below Ns.1); have HRb := hide HAb.out.r; have HRs := hide Rs.src; have HR2 := hide (RndL.snoc HRn.out Ss.2 (by rw [Ss.1, roundP_len])); clear Rs Ss Ns HSh)
        | (at_builtin; refine HRb.out.appS HRs.out HM.out rfl (.tmp 43) (.tmp 46) rfl rfl rfl ?_; intro b4 c4 w4 R4 A4; have HA4 := hide (HAb.out.app R4 A4); clear R4 A4))
      go_roundw
      case rel => exact ⟨q + 1, b4, m + fn, c4, _, by omega, by go_num, rfl, HR2, HA4⟩
      case measure => simp [intOf]; omega
    · obtain rfl : q = cnt := by omega
      have HEn := hide (HEr.out M HRn.out)
      have HMm : Hid (m = q * k) := by show _ = _; rw [← HA.out.r.len]; exact HRn.out.len
      have hmk : k ≤ m + 1 := by have := HLo.out; rw [HMm.out]; exact this
      have hm1 : m ≤ 64 := by
        have h3 : q * k ≤ 4 * 16 := Nat.mul_le_mul (by omega) hk
        rw [HMm.out]
        exact h3
      have hmk' : ¬ (m : Int) < (k : Int) - 1 := by omega
      have hk' : (k : Int) ≤ 16 := by omega
      have hk1' : (1 : Int) ≤ k := by omega
      go_wp2_with (first
        | (go_at_call 22; refine (HET.out _ _ _ _ _ HA.out.r.src (by omega) HEn.out).mono ?_; rintro e wc ⟨rfl, bc⟩; have HBc := hide (HA.out.a.1.trans (bc.mono HA.out.a.1.size)); clear bc)
        | (go_at_call 9; refine (HP.out _).mono ?_; rintro e wd ⟨bd, md, cd, rfl, Rd, Nd⟩; obtain ⟨p1, p2⟩ := PR.litB HBc.out; have HD := hide (AL.begin p1 p2 Nd.1); have HRd := hide Rd; have HNd := hide Nd.2; clear p1 p2 Rd Nd HP))
      obtain ⟨wC, hwC⟩ : ∃ wC, wc.alloc (.cells #[] 28) = wC := ⟨_, rfl⟩
      rw [hwC] at HD HNd
      clear hwC hmk' hmk hm1 HA HRn
      have hmd : md ≤ 256 := by have := HRd.out.len; have := HPl.out; omega
      have HK1 : Hid (k = 1 → md = 0) := fun e => by subst e; exact HRd.out.len.symm
      go_loopw [11, 67] (fun p i wr => ∃ (j : Nat) (ro : Option Addr) (m cc : Nat) (D : List Pr), j ≤ md ∧ i = .int .i64 j ∧ p = .slice ro m cc ∧ Hid (∀ p, p ∈ D → p.t ≠ 0) ∧ Hid (m ≤ j) ∧ Hid (AL w wC wd wr ro m cc D)) (fun _ i _ => md - (intOf i).toNat)
      case atStart => exact ⟨0, _, 0, 0, [], Nat.zero_le _, rfl, rfl, (fun p hp => by cases hp), Nat.zero_le _, HD⟩
      case round =>
        clear HD
        obtain ⟨j, ro, m, cc, D, hj, rfl, rfl, HT, HJ, HD⟩ := hrel
        by_cases hl2 : j < md
        · have hrd : PR wr bd md cd (pairsP k k) := HRd.out.keep fun i hi => HD.out.stay i (HNd.out i hi) (HRd.out.lt i hi)
          obtain ⟨fb, rfl, x⟩ := hrd.at j hl2
          obtain ⟨y, hy⟩ : ∃ y, (pairsP k k).getD j p0 = y := ⟨_, rfl⟩
          rw [hy] at x
          obtain ⟨f, t⟩ := y
          have x0 : (ldP (.pointer (some ⟨fb, j * 2, none⟩))).run Try.prog wr = .ok (.agg #[.int .i64 f, .int .i64 t]) wr := run_laP x
          obtain ⟨w4, hst, hbx, hbl, -⟩ := madeP wr ⟨f, t⟩ wr.heap.size rfl
          have hst' : (stP (.pointer (some ⟨wr.heap.size, 0, none⟩)) (.agg #[.int .i64 f, .int .i64 t])).run Try.prog (wr.alloc (.cells #[.int .i64 0, .int .i64 0] 28)) = .ok () w4 := hst
          have hld : (ldP (.pointer (some ⟨wr.heap.size, 0, none⟩))).run Try.prog w4 = .ok (.agg #[.int .i64 f, .int .i64 t]) w4 := run_ldP hbx
          have c1 := hbx.c1
          simp only at c1
          have HD4 := hide (HD.out.below hbl)
          have HR4 := hide HD4.out.r
          have HM : Hid (m + 1 ≤ 8796093022108) := by show _ ≤ _; have := HJ.out; omega
          clear hst hbx hbl x hy hrd HD
          by_cases ht : t = 0
          · subst ht
            go_wp2_with fail
            go_roundw
            case rel => exact ⟨j + 1, ro, m, cc, D, by omega, by go_num, rfl, HT, Nat.le_succ_of_le HJ.out, HD4⟩
            case measure => simp [intOf]; omega
          · have HT2 : Hid (∀ p, p ∈ D ++ [(⟨f, t⟩ : Pr)] → p.t ≠ 0) := fun p hp => by
              rcases List.mem_append.1 hp with h | h
              · exact HT.out p h
              · rw [List.mem_singleton.1 h]; exact ht
            go_wp2_with (at_builtin; refine HR4.out.app (L := [⟨f, t⟩]) (m := 1) rfl (pcs_lit _ _) HM.out rfl (.tmp 74) (.tmp 76) rfl rfl rfl ?_; intro b5 c5 w5 R5 A5; have HD5 := hide (HD4.out.app R5 A5); clear R5 A5)
            go_roundw
            case rel => exact ⟨j + 1, b5, m + 1, c5, _, by omega, by go_num, rfl, HT2, Nat.succ_le_succ HJ.out, HD5⟩
            case measure => simp [intOf]; omega
        · have hm2 : m ≤ 256 := by have := HJ.out; omega
          have hE0 := HE.out ro m cc D wr HD.out.r.src (by omega)
          by_cases hk2 : k = 1
          · have hD : D = [] := List.eq_nil_of_length_eq_zero (by have h1 := HD.out.r.len; have h2 := HJ.out; have h3 := HK1.out hk2; omega)
            subst hk2
            rw [hD, en_one] at hE0
            have HE0 := hide hE0
            clear hE0 hD
            go_wp2_with (go_at_call 22; refine HE0.out.mono ?_; rintro e w6 ⟨rfl, b6⟩; have HB6 := hide (HD.out.a.1.trans (b6.mono HD.out.a.1.size)); clear b6)
            go_ret
            exact ⟨rfl, HB6.out⟩
          · rw [en_deaf k (by omega) D HT.out] at hE0
            have HE0 := hide hE0
            have hk3 : ((k : Int) == 1) = false := by simp; omega
            clear hE0 hk2
            go_wp2_with (go_at_call 22; refine HE0.out.mono ?_; rintro e w6 ⟨rfl, b6⟩; have HB6 := hide (HD.out.a.1.trans (b6.mono HD.out.a.1.size)); clear b6)
            go_ret
            exact ⟨rfl, HB6.out⟩
end Go.Proofs.Ytckehmhieigglaa
