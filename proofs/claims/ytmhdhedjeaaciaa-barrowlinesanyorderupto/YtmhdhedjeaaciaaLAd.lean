/- LinesAdds: the law's walk. -/
import Derived.Test.YtmhdhedjeaaciaaLAp
import Derived.Test.YtmhdhedjeaaciaaLAw
import Derived.Lib.QuietBelow
import Derived.Laws.Cover1
import Derived.Sort.Walk0
namespace Go.Proofs.Ytmhdhedjeaaciaa
open Go.RowKit
attribute [local go_sem ↓] ld28_eq st28_eq ldL_eq stL_eq
attribute [local go_sem] zero_EC cells_EV EC_size zero_LC cells_LV LC_size

def eqL (x y : Ln) : Bool := x.sku.toList == y.sku.toList && x.qty == y.qty && x.parts == y.parts
theorem run_eqL (x y : Ln) (w : World) : (Op.equalIn 10000 29 (.agg (LC x)) (.agg (LC y))).run Try.prog w = .ok (eqL x y) w := by
  have u3 := Try.underlying3
  have a3 := Try.isAgg3
  have z3 := Try.sizeOf3
  have u9 := Try.underlying9
  have a9 := Try.isAgg9
  have z9 := Try.sizeOf9
  have hS : Try.prog.underlying 29 = some (.struct (Try.prog.fieldsOf 29)) := by kernel_rfl
  have hp : Try.prog.stoodInHeld 29 = false := by kernel_rfl
  obtain ⟨s, q, m⟩ := x
  obtain ⟨s', q', m'⟩ := y
  show (Op.equalIn 10000 29 (.agg #[.string s, .int .i64 q, .int .i64 m]) (.agg #[.string s', .int .i64 q', .int .i64 m'])).run Try.prog w = .ok (s.toList == s'.toList && q == q' && m == m') w
  rw [show (10000 : Nat) = 9999 + 1 from rfl, run_equalIn_struct w 9999 29 _ _ hS hp]
  simp only [Program.fieldsOf, Try.underlying29]
  have h9 : ∀ w, (Op.equalIn 9999 9 (.string s) (.string s')).run Try.prog w = .ok (s.toList == s'.toList) w := fun w => run_equalIn_string w 9998 9 s s' Try.underlying9
  have h3 : ∀ a b w, (Op.equalIn 9999 3 (.int .i64 a) (.int .i64 b)).run Try.prog w = .ok (a == b) w := fun a b w => run_equalIn_int w 9998 3 .i64 .i64 a b Try.underlying3
  obtain ⟨D, hD⟩ : ∃ D, 9999 = D := ⟨9999, rfl⟩
  rw [hD] at h9 h3 ⊢
  go_simp
  by_cases e3 : s.toList = s'.toList
  · by_cases e1 : q = q'
    · by_cases e2 : m = m'
      · simp [e1, e2, e3]
      · simp [e1, e2, e3]
    · simp [e1, e3]
  · simp [e3]
theorem eqL_self (x : Ln) : eqL x x = true := by simp [eqL]
attribute [local go_sem ↓] run_eqL
set_option maxRecDepth 100000 in
set_option maxHeartbeats 8000000 in
theorem adds_any (ao : Option Addr) (n cap : Nat) (L : List En) (w : World) (hS : ESrc w ao n cap L) :
    Calls Try.prog 4 #[.slice ao n cap] w fun y w' => y = .returned (.bool true) ∧ Below w.heap.size w w' := by
  have HS := hide hS
  have HL : Hid (L.length = n) := hS.1
  have hn := hS.2.2.2.2
  clear hS
  go_enter Try.func4, Try.ntmps4
  go_wp2_with fail
  refine (awake_any _).mono ?_
  rintro y w1 ⟨rfl, b1⟩
  have B1 := hide b1
  clear b1
  go_wp2_with fail
  refine (lines_any ao n cap L _ (HS.out.below B1.out)).mono ?_
  rintro y w2 ⟨a2, n2, c2, R, er, rfl, S2, b2, f2, t2⟩
  have HS2 := hide S2
  have HF2 := hide f2
  have HT2 := hide t2
  have B2 := hide (B1.out.trans (b2.mono B1.out.size))
  clear S2 b2 f2 t2 B1
  go_wp2_with fail
  refine (lcheck_any ao n cap L _ (HS.out.below B2.out)).mono ?_
  rintro y w3 ⟨rfl, b3⟩
  have HS3 := hide (HS2.out.below b3)
  have B3 := hide (B2.out.trans (b3.mono B2.out.size))
  have HSL := hide (HS.out.below B3.out)
  clear b3 B2 HS2
  rcases chk_c L with h | h
  · rw [h]
    have HC := hide h
    have HY := hide (lay_of h HT2.out)
    have her : er = 0 := by rcases HT2.out with ⟨h', _⟩ | ⟨_, h', _⟩; exact absurd h h'; exact h'
    subst her
    have hlen := chk_len h
    rw [HL.out] at hlen
    have HTB := hide (ttl_bd L (chk_all h))
    have HR : Hid (R.length = n2) := HS3.out.1
    have hn2 := HS3.out.2.2.2.2
    clear h HT2
    go_wp2_with fail
    go_loopw [5, 6, 37] (fun p s i wr => ∃ k : Nat, k ≤ n2 ∧ p = .int .i64 (ps (R.take k)) ∧ s = .int .i64 (qs (R.take k)) ∧ i = .int .i64 k ∧ Hid (Below w3.heap.size w3 wr)) (fun _ _ i _ => n2 - (intOf i).toNat)
    case atStart => exact ⟨0, Nat.zero_le _, rfl, rfl, rfl, Below.refl _ _⟩
    case round =>
      obtain ⟨k, hk, rfl, rfl, rfl, HB⟩ := hrel
      have hsm := sums_le HY.out.pos k
      have hsm' := sums_le HY.out.pos (k + 1)
      have htb := HTB.out
      rw [HL.out] at htb
      rw [HY.out.q, HY.out.p, HL.out] at hsm hsm'
      obtain ⟨p, Hp⟩ : ∃ p, Hid (ps (R.take k) = p) := ⟨_, rfl⟩
      obtain ⟨q, Hq⟩ : ∃ q, Hid (qs (R.take k) = q) := ⟨_, rfl⟩
      rw [Hp.out, Hq.out] at hsm ⊢
      by_cases hlt : k < n2
      · obtain ⟨ad, rfl, A0⟩ := (HS3.out.below HB.out).at k hlt
        obtain ⟨g, rfl⟩ : ∃ g, ad = ⟨g, 0, none⟩ := ⟨_, (HF2.out ad rfl).2⟩
        have htk := take_snocL R k (by rw [HR.out]; exact hlt)
        have hmem : R.getD k ln0 ∈ R := by rw [show R.getD k ln0 = R[k]'(by rw [HR.out]; exact hlt) by simp [List.getD, HR.out, hlt]]; exact List.getElem_mem _
        have hpos := HY.out.pos _ hmem
        have hself := HY.out.self _ hmem
        have hsk := HS3.out.2.2.2.1 _ hmem
        have hof := of_ok HC.out (HY.out.inL _ hmem)
        have HN : Hid (ps (R.take (k + 1)) = p + (R.getD k ln0).parts ∧ qs (R.take (k + 1)) = q + (R.getD k ln0).qty) := by
          show _ ∧ _
          rw [htk, ps_append, qs_append, Hp.out, Hq.out]; simp [ps, qs]
        rw [HN.out.1, HN.out.2] at hsm'
        have hrise : ∀ j, k = j + 1 → (R.getD j ln0).sku.data.toList < (R.getD k ln0).sku.data.toList := fun j hj => HY.out.rise j k (by omega) (by rw [HR.out]; exact hlt)
        obtain ⟨l, Hl⟩ : ∃ l, Hid (R.getD k ln0 = l) := ⟨_, rfl⟩
        rw [Hl.out] at A0 HN hpos hself hsk hof hsm' hrise
        have HSK := hide hsk
        have HOF : Hid (ofE L l.sku = 0 ∧ lnV L l.sku = l) := ⟨hof.1, hof.2.trans hself.symm⟩
        rw [Addr.add_lit, Nat.zero_add] at A0
        have hld := run_ldL A0
        have hw1 : IntKind.i64.wrap (p + l.parts) = p + l.parts := by rw [IntKind.wrap_i64]; omega
        have hw2 : IntKind.i64.wrap (q + l.qty) = q + l.qty := by rw [IntKind.wrap_i64]; omega
        have hps : decide (l.parts < 1) = false := by simp; omega
        have hqq := eqL_self l
        obtain ⟨wk, hst, X1, B1', Z1⟩ := madeL wr l wr.heap.size rfl
        have HX := hide X1
        have HBK := hide (HB.out.trans (B1'.mono HB.out.size))
        have HB1 := hide B1'
        have hHR := hide hrise
        clear X1 B1' A0 Z1 hsm hsm' htb hof hself hsk hmem htk hpos hrise
        by_cases hk0 : k = 0
        · subst hk0
          rw [Nat.zero_mul] at hld
          go_wp2_with fail
          refine wp_region_quiet_below (by kernel_rfl) (by kernel_rfl) ?_
          repeat (with_reducible (refine wpQuiet_step ?_); intro K hK; go_simp; (try rw [if_neg (by unfold undef; simp)]); (with_reducible (refine hK _ ?_); clear hK K))
          with_reducible (refine wpQuiet_nil ?_)
          intro _ hw'
          obtain ⟨⟨dq, osq⟩, hw''⟩ := hw'
          subst hw''
          have HW5 := hide (below_regrown wk dq osq)
          obtain ⟨w5, Hw5⟩ : ∃ w5, Hid (Sort.grow (redrawn wk dq) osq = w5) := ⟨_, rfl⟩
          rw [Hw5.out] at HW5 ⊢
          clear Hw5
          clear hst hld
          have HX5 := hide (HX.out.below HW5.out)
          have c0 : w5.cell? ⟨wr.heap.size, 0, none⟩ = some (.string l.sku) := HX5.out.at.c0
          go_wp2_with fail
          refine (line_any ao n cap L l.sku _ ((HSL.out.below HBK.out).below HW5.out) HSK.out).mono ?_
          rintro y w6 ⟨rfl, b6⟩
          rw [HOF.out.1, HOF.out.2]
          have HX6 := hide (HX5.out.below b6)
          have HB6 := hide ((HBK.out.trans (HW5.out.mono HBK.out.size)).trans (b6.mono (Nat.le_trans HBK.out.size HW5.out.size)))
          obtain ⟨w7, hst7, X7, B7, Z7⟩ := madeL w6 l w6.heap.size rfl
          have HX8 := hide (HX6.out.below B7)
          have l7 := run_ldL X7.at
          have l8 := run_ldL HX8.out.at
          have d1 : w7.cell? ⟨wr.heap.size, 1, none⟩ = some (.int .i64 l.qty) := by have h := HX8.out.at.c1; simpa [Addr.add] using h
          have d2 : w7.cell? ⟨wr.heap.size, 2, none⟩ = some (.int .i64 l.parts) := by have h := HX8.out.at.c2; simpa [Addr.add] using h
          have HB7 := hide (HB6.out.trans (B7.mono HB6.out.size))
          clear X7 B7 Z7 b6 c0 HX5 HX6 HX8
          go_wp2_with fail
          go_roundw
          case rel => exact ⟨0 + 1, by omega, by rw [HN.out.1], by rw [HN.out.2], by go_num, HB7⟩
          case measure => simp [intOf]; omega
        · have hk1 : decide ((0 : Int) < (k : Int)) = true := decide_eq_true (by omega)
          have hk2 : 0 < k := by omega
          obtain ⟨j, hj⟩ : ∃ j, k - 1 = j := ⟨_, rfl⟩
          have hz : IntKind.i64.wrap ((k : Int) - 1) = (j : Int) := by rw [IntKind.wrap_i64]; omega
          have hjn : j < n2 := by omega
          have A1 := ((HS3.out.below HB.out).2.2.1 _ rfl j hjn).on HB1.out
          have hr := hHR.out j (by omega)
          obtain ⟨l1, Hl1⟩ : ∃ l1, Hid (R.getD j ln0 = l1) := ⟨_, rfl⟩
          rw [Hl1.out] at A1 hr
          rw [Addr.add_lit, Nat.zero_add] at A1
          have HA1 := hide A1.c0
          have c1 : ∀ d os, (Sort.grow (redrawn wk d) os).cell? ⟨g, j * 3, none⟩ = some (.string l1.sku) := fun d os => ((below_regrown wk d os).cell (World.block_lt_of_cell? _ _ HA1.out)).trans HA1.out
          have c2 : ∀ d os, (Sort.grow (redrawn wk d) os).cell? ⟨wr.heap.size, 0, none⟩ = some (.string l.sku) := fun d os => (HX.out.below (below_regrown wk d os)).at.c0
          have hbl : Op.bytesLess l1.sku.toList l.sku.toList = true := by rw [ByteArray.toList_eq, ByteArray.toList_eq, bytesLess_eq]; exact decide_eq_true hr
          clear A1 hr hk0
          go_wp2_with fail
          refine wp_region_quiet_below (by kernel_rfl) (by kernel_rfl) ?_
          repeat (with_reducible (refine wpQuiet_step ?_); intro K hK; go_simp; (try rw [if_neg (by unfold undef; simp)]); (with_reducible (refine hK _ ?_); clear hK K))
          with_reducible (refine wpQuiet_nil ?_)
          intro _ hw'
          obtain ⟨⟨dq, osq⟩, hw''⟩ := hw'
          subst hw''
          have HW5 := hide (below_regrown wk dq osq)
          obtain ⟨w5, Hw5⟩ : ∃ w5, Hid (Sort.grow (redrawn wk dq) osq = w5) := ⟨_, rfl⟩
          rw [Hw5.out] at HW5 ⊢
          clear Hw5
          clear c1 c2 hbl
          clear hst hld
          have HX5 := hide (HX.out.below HW5.out)
          have c0 : w5.cell? ⟨wr.heap.size, 0, none⟩ = some (.string l.sku) := HX5.out.at.c0
          go_wp2_with fail
          refine (line_any ao n cap L l.sku _ ((HSL.out.below HBK.out).below HW5.out) HSK.out).mono ?_
          rintro y w6 ⟨rfl, b6⟩
          rw [HOF.out.1, HOF.out.2]
          have HX6 := hide (HX5.out.below b6)
          have HB6 := hide ((HBK.out.trans (HW5.out.mono HBK.out.size)).trans (b6.mono (Nat.le_trans HBK.out.size HW5.out.size)))
          obtain ⟨w7, hst7, X7, B7, Z7⟩ := madeL w6 l w6.heap.size rfl
          have HX8 := hide (HX6.out.below B7)
          have l7 := run_ldL X7.at
          have l8 := run_ldL HX8.out.at
          have d1 : w7.cell? ⟨wr.heap.size, 1, none⟩ = some (.int .i64 l.qty) := by have h := HX8.out.at.c1; simpa [Addr.add] using h
          have d2 : w7.cell? ⟨wr.heap.size, 2, none⟩ = some (.int .i64 l.parts) := by have h := HX8.out.at.c2; simpa [Addr.add] using h
          have HB7 := hide (HB6.out.trans (B7.mono HB6.out.size))
          clear X7 B7 Z7 b6 c0 HX5 HX6 HX8
          go_wp2_with fail
          go_roundw
          case rel => exact ⟨k + 1, by omega, by rw [HN.out.1], by rw [HN.out.2], by go_num, HB7⟩
          case measure => simp [intOf]; omega
      · obtain rfl : k = n2 := by omega
        have htk : R.take k = R := List.take_of_length_le (by rw [HR.out]; exact Nat.le_refl _)
        have hpp : p = (n : Int) := by rw [← Hp.out, htk, HY.out.p, HL.out]
        have hqq : q = ttl L := by rw [← Hq.out, htk, HY.out.q]
        subst hpp
        have HQQ := hide hqq
        have HTV : Hid (totV L = ttl L) := by show _ = _; rw [totV, if_pos HC.out]
        clear hsm hsm' htb htk hqq
        go_wp2_with fail
        refine (total_any ao n cap L _ (HSL.out.below HB.out)).mono ?_
        rintro y w8 ⟨rfl, b8⟩
        rw [HTV.out, HC.out, ← HQQ.out]
        have HB8 := hide (HB.out.trans (b8.mono HB.out.size))
        have HS8 := hide (HSL.out.below HB8.out)
        have HW8 := hide (B3.out.trans (HB8.out.mono B3.out.size))
        clear b8 HB HB8
        go_wp2_with fail
        go_loopw [103] (fun i wr2 => ∃ j : Nat, j ≤ n ∧ i = .int .i64 j ∧ Hid (Below w8.heap.size w8 wr2)) (fun i _ => n - (intOf i).toNat)
        case atStart => exact ⟨0, Nat.zero_le _, rfl, Below.refl _ _⟩
        case round =>
          obtain ⟨j, hj, rfl, HB9⟩ := hrel
          by_cases hjl : j < n
          · obtain ⟨ad, rfl, A0⟩ := (HS8.out.below HB9.out).at j hjl
            have hld := run_ld28 A0
            have hmem : L.getD j en0 ∈ L := by rw [show L.getD j en0 = L[j]'(by rw [HL.out]; exact hjl) by simp [List.getD, HL.out, hjl]]; exact List.getElem_mem _
            have hof := of_ok HC.out ⟨_, hmem, rfl⟩
            have hsk := HS.out.2.2.2.1 _ hmem
            have hls := line_sku L _ hmem
            have hge := line_ge HC.out _ hmem
            obtain ⟨e, He⟩ : ∃ e, Hid (L.getD j en0 = e) := ⟨_, rfl⟩
            rw [He.out] at hld A0 hof hsk hls hge
            obtain ⟨l, Hl⟩ : ∃ l, Hid (lineOf L e.sku = l) := ⟨_, rfl⟩
            rw [Hl.out] at hof hls hge
            have HOF := hide hof
            have HSK := hide hsk
            have hlq : decide (l.qty < e.qty) = false := by simp; omega
            obtain ⟨wk, hst, X1, B1', Z1⟩ := made wr e wr.heap.size rfl
            have HX := hide X1
            have HBK := hide (HB9.out.trans (B1'.mono HB9.out.size))
            have c2 : wk.cell? ⟨wr.heap.size, 2, none⟩ = some (.string e.sku) := by have h := X1.at.c2; simpa [Addr.add] using h
            clear X1 B1' A0 Z1 hof hsk hmem hge
            go_wp2_with fail
            refine (line_any (some ad) n cap L e.sku _ (HS8.out.below HBK.out) HSK.out).mono ?_
            rintro y w10 ⟨rfl, b10⟩
            rw [HOF.out.1, HOF.out.2]
            obtain ⟨w11, hst11, X11, B11, Z11⟩ := madeL w10 l w10.heap.size rfl
            have HX11 := hide ((HX.out.below b10).below B11)
            have d0 : w11.cell? ⟨w10.heap.size, 0, none⟩ = some (.string e.sku) := by have h := X11.at.c0; rw [hls] at h; exact h
            have d1 : w11.cell? ⟨w10.heap.size, 1, none⟩ = some (.int .i64 l.qty) := by have h := X11.at.c1; simpa [Addr.add] using h
            have g2 : w11.cell? ⟨wr.heap.size, 2, none⟩ = some (.string e.sku) := by have h := HX11.out.at.c2; simpa [Addr.add] using h
            have g3 : w11.cell? ⟨wr.heap.size, 3, none⟩ = some (.int .i64 e.qty) := by have h := HX11.out.at.c3; simpa [Addr.add] using h
            have HB11 := hide ((HBK.out.trans (b10.mono HBK.out.size)).trans (B11.mono (Nat.le_trans HBK.out.size b10.size)))
            clear X11 B11 Z11 b10 c2 hst hld hls HX HX11
            go_wp2_with fail
            go_roundw
            case rel => exact ⟨j + 1, by omega, by go_num, HB11⟩
            case measure => simp [intOf]; omega
          · obtain rfl : j = n := by omega
            have HW := hide (HW8.out.trans (HB9.out.mono HW8.out.size))
            go_wp2_with fail
            go_ret
            exact ⟨rfl, HW.out⟩
  · rw [h]
    have hR : R = [] ∧ er = 1 := by rcases HT2.out with ⟨_, h1, h2⟩ | ⟨h', _⟩; exact ⟨h1, h2⟩; rw [h] at h'; omega
    obtain ⟨rfl, rfl⟩ := hR
    obtain rfl : 0 = n2 := HS3.out.1
    clear h HT2
    go_wp2_with fail
    go_ret
    exact ⟨rfl, B3.out⟩
end Go.Proofs.Ytmhdhedjeaaciaa
