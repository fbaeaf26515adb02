/- VectorRanked: the law's walk. -/
import Derived.Test.YtibmlkegadcodaaWAw
namespace Go.Proofs.Ytibmlkegadcodaa
open Go.RowKit Go.Sort V
attribute [local go_sem ↓] ld56_eq st56_eq
attribute [local go_sem] zeros_VC cells_VA

theorem sumN_congr {f g : Nat → Int} : ∀ k, (∀ r, r < k → f r = g r) → sumN f k = sumN g k
  | 0, _ => rfl
  | k + 1, h => by simp only [sumN]; rw [sumN_congr k (fun r hr => h r (by omega)), h k (by omega)]
theorem lst_congr {f g : Nat → Int} (h : ∀ r, r < 16 → f r = g r) : lst f = lst g := by
  unfold lst
  exact List.map_congr_left (fun r hr => h r (by simpa using hr))
theorem cmpV_congr {f f' g g' : Nat → Int} (h : ∀ r, r < 16 → f r = f' r) (k : ∀ r, r < 16 → g r = g' r) : cmpV f g = cmpV f' g' := by
  unfold cmpV
  rw [sumN_congr 16 h, sumN_congr 16 k, lst_congr h, lst_congr k]
theorem w64 {x : Int} (h1 : -9223372036854775808 ≤ x) (h2 : x ≤ 9223372036854775807) : wrap64 x = x := by unfold wrap64; omega
/-- how often the list stands there -/
def cK (N : List Int) (L : List (List Int)) : Nat := L.countP (fun x => decide (x = N))
theorem cK_snoc (N : List Int) (L : List (List Int)) (j : Nat) (x : List Int) (h : L[j]? = some x) : cK N (L.take (j + 1)) = cK N (L.take j) + (if x = N then 1 else 0) := by
  have hj : j < L.length := (List.getElem?_eq_some_iff.1 h).1
  have hx : L[j] = x := (List.getElem?_eq_some_iff.1 h).2
  unfold cK
  rw [List.take_succ_eq_append_getElem hj, List.countP_append, hx]
  by_cases e : x = N <;> simp [e]
theorem cK_le (N : List Int) (L : List (List Int)) (j : Nat) : cK N (L.take j) ≤ L.length := by
  unfold cK
  exact Nat.le_trans List.countP_le_length (by simp; omega)
theorem cK_mono (N : List Int) (L : List (List Int)) (j : Nat) : cK N (L.take j) ≤ cK N L := by
  unfold cK
  conv => rhs; rw [← List.take_append_drop j L, List.countP_append]
  omega
theorem of_map {Y : List Sv} {d : List Cn} (h : Y.map Sv.Z = d.map (fun c : Cn => short c.1)) {k : Nat} {p : Sv} (hp : Y[k]? = some p) : ∃ c, d[k]? = some c ∧ p.Z = short c.1 := by
  have h1 : (Y.map Sv.Z)[k]? = some p.Z := by rw [List.getElem?_map, hp]; rfl
  rw [h, List.getElem?_map, Option.map_eq_some_iff] at h1
  obtain ⟨c, e1, e2⟩ := h1
  exact ⟨c, e1, e2.symm⟩
theorem ranked_le {Y : List Sv} {d : List Cn} (h : Y.map Sv.Z = d.map (fun c : Cn => short c.1)) (hO : d.Pairwise (fun x y => cmpC x y ≤ 0)) {k : Nat} {p q : Sv} (hp : Y[k]? = some p) (hq : Y[k + 1]? = some q) : cmpV (at' p.Z) (at' q.Z) ≤ 0 := by
  obtain ⟨c, hc, ec⟩ := of_map h hp
  obtain ⟨c', hc', ec'⟩ := of_map h hq
  rw [ec, ec', cmpV_congr (fun r hr => at_short c.2.1 r hr) (fun r hr => at_short c'.2.1 r hr)]
  obtain ⟨l1, g1⟩ := List.getElem?_eq_some_iff.1 hc
  obtain ⟨l2, g2⟩ := List.getElem?_eq_some_iff.1 hc'
  have := List.pairwise_iff_getElem.1 hO k (k + 1) l1 l2 (by omega)
  rw [g1, g2] at this
  exact this
theorem same_count {X Y : List Sv} {d : List Cn} (h : Y.map Sv.Z = d.map (fun c : Cn => short c.1)) (hp : d.Perm (X.map cnOf)) (N : List Int) : cK N (Y.map Sv.Z) = cK N (X.map (fun p => short (at' p.Z))) := by
  have e : (X.map cnOf).map (fun c : Cn => short c.1) = X.map (fun p => short (at' p.Z)) := by rw [List.map_map]; rfl
  rw [h, ← e]
  unfold cK
  exact (hp.map _).countP_eq _
set_option maxRecDepth 100000 in
set_option maxHeartbeats 4000000 in
theorem ranked_any (ao : Option Addr) (n cap : Nat) (X : List Sv) (w : World) (hS : VRow w ao n X) (hn : n ≤ 1099511627776) : Calls Try.prog 4 #[.slice ao n cap] w fun e w' => e = .returned (.bool true) ∧ Below w.heap.size w w' := by
  have HS := hide hS
  have HN := hide hn
  have HL : Hid (X.length = n) := hS.len
  clear hS
  go_enter Try.func4, Try.ntmps4
  go_wp2_with fail
  refine (awake_any w).mono ?_
  rintro e w1 ⟨rfl, b1⟩
  have HB1 := hide b1
  have HS1 := hide (HS.out.below b1)
  clear b1
  go_wp2_with fail
  refine (sort_any ao n cap X _ HS1.out HN.out).mono ?_
  rintro e w2 ⟨qo, Y, d, rfl, v2, y2, p2, o2, b2⟩
  have HY := hide v2
  have HX := hide (HS1.out.below b2)
  have HB := hide (HB1.out.trans (b2.mono HB1.out.size))
  have HYL : Hid (Y.length = n) := v2.len
  have HYZ := hide y2
  have HP := hide p2
  have HO := hide o2
  clear v2 y2 p2 o2 b2 HS HS1 HB1
  have HDL : Hid (d.length = n) := by show _ = _; rw [← HYL.out, ← List.length_map (f := Sv.Z), HYZ.out]; simp
  go_wp2_with fail
  go_loopw [4] (fun i wr => ∃ m : Nat, i = .int .i64 m ∧ Hid (1 ≤ m ∧ m ≤ n + 1) ∧ Hid (Below w2.heap.size w2 wr)) (fun i _ => n + 1 - (intOf i).toNat)
  case atStart => exact ⟨1, rfl, ⟨Nat.le_refl _, by omega⟩, Below.refl _ _⟩
  case round =>
    obtain ⟨m, rfl, HM, HW⟩ := hrel
    by_cases hlt : m < n
    · obtain ⟨k, hmk⟩ : ∃ k, m = k + 1 := ⟨m - 1, by have := HM.out; omega⟩
      obtain ⟨ad1, p, e1, hp, cp, sp⟩ := (HY.out.below HW.out).at k (by omega)
      obtain rfl := Option.some.inj e1
      obtain ⟨ad2, q, e2, hq, cq, sq⟩ := (HY.out.below HW.out).at m hlt
      obtain rfl := Option.some.inj e2
      rw [Addr.add_lit, Nat.zero_add] at cp cq
      have hz := ranked_le HYZ.out HO.out hp (by rw [← hmk]; exact hq)
      obtain ⟨z, hzz⟩ : ∃ z, cmpV (at' p.Z) (at' q.Z) = z := ⟨_, rfl⟩
      have cC : ∀ d os, Calls Try.prog 13 #[SvV p, SvV q] (Sort.grow (redrawn wr d) os) fun e w'' => e = .returned (.int .i64 z) ∧ ∃ p : Regrown, w'' = Sort.grow (redrawn wr p.d) p.os := fun d os => by
        have := vcompare_any p.vo q.vo p.vn p.vc q.vn q.vc p.Z q.Z (Sort.grow (redrawn wr d) os) (sp.below (below_regrown wr d os)) (sq.below (below_regrown wr d os))
        rw [hzz] at this
        exact Calls.regrown_of this
      have k1 := cell_regrown cp
      have k2 := cell_regrown cq
      rw [hzz] at hz
      have hz' : ¬ 0 < z := by omega
      have hw : IntKind.i64.wrap ((m : Int) - 1) = (k : Int) := by have := HN.out; rw [IntKind.wrap_i64]; omega
      have hk1 : k < n := by omega
      have HBN := hide hlt
      clear cp cq sp sq hp hq hzz hz e1 e2 hmk
      go_wp2_with fail
      refine wp_region_quiet_below (by kernel_rfl) (by kernel_rfl) ?_
      repeat (quiet_step ((go_at_call 13; exact cC _ _)))
      refine wpQuiet_nil ?_
      intro w15 hw'
      obtain ⟨⟨dq, osq⟩, hw''⟩ := hw'
      have b15 : Below wr.heap.size wr w15 := by rw [hw'']; exact below_regrown wr dq osq
      have HW2 := hide (HW.out.trans (b15.mono HW.out.size))
      clear hw'' b15 cC k1 k2
      go_wp2_with fail
      go_roundw
      case rel => exact ⟨m + 1, by go_num, ⟨by omega, by have := HBN.out; omega⟩, HW2⟩
      case measure => simp [intOf]; omega
    · have HX1 := hide (HX.out.below HW.out)
      have HY1 := hide (HY.out.below HW.out)
      have HB1 := hide (HB.out.trans (HW.out.mono HB.out.size))
      have HSC : Hid (∀ N, cK N (Y.map Sv.Z) = cK N (X.map (fun p => short (at' p.Z)))) := fun N => same_count HYZ.out HP.out N
      have HY16 : Hid (∀ p, p ∈ Y → p.Z.length ≤ 16) := by
        intro p hp
        obtain ⟨t, ht⟩ := List.mem_iff_getElem?.1 hp
        obtain ⟨c, -, ec⟩ := of_map HYZ.out ht
        rw [ec, short_length]
        exact top_le _
      clear HX HY HB HW HM HYZ HP HO HDL
      go_wp2_with fail
      go_loopw [6, 7, 8, 10, 12, 41] (fun _ _ _ _ _ i wz => ∃ a : Nat, a ≤ n ∧ i = .int .i64 a ∧ Hid (Below wr.heap.size wr wz)) (fun _ _ _ _ _ i _ => n - (intOf i).toNat)
      case atStart => exact ⟨0, Nat.zero_le _, rfl, Below.refl _ _⟩
      case round =>
        obtain ⟨a, ha, rfl, HW⟩ := hrel
        rename World => wq
        by_cases hla : a < n
        · obtain ⟨ad1, p, e1, hp, cp, sp⟩ := (HX1.out.below HW.out).at a hla
          have HSP := hide sp
          subst e1
          clear sp hp
          have HLA := hide hla
          go_wp2_with fail
          refine (norm_any p.vo p.vn p.vc p.Z _ HSP.out).mono ?_
          rintro e w4 ⟨no, nn, nc, rfl, s4, b4⟩
          obtain ⟨N, hN⟩ : ∃ N, short (at' p.Z) = N := ⟨_, rfl⟩
          rw [hN] at s4
          have HSN := hide s4
          have HW4 := hide (HW.out.trans (b4.mono HW.out.size))
          clear s4 b4 cp hN HSP HW
          have HX4 := hide (HX1.out.below HW4.out)
          have HY4 := hide (HY1.out.below HW4.out)
          have HAL : Hid ((X.map (fun p => short (at' p.Z))).length = n) := by show _ = _; rw [List.length_map]; exact HL.out
          go_wp2_with fail
          go_loopw [8, 10, 49] (fun s _ j wz => ∃ b : Nat, b ≤ n ∧ j = .int .i64 b ∧ s = .int .i64 (cK N ((X.map (fun p => short (at' p.Z))).take b) : Nat) ∧ Hid (Below w4.heap.size w4 wz)) (fun _ _ j _ => n - (intOf j).toNat)
          case atStart => exact ⟨0, Nat.zero_le _, rfl, by simp [cK], Below.refl _ _⟩
          case round =>
            obtain ⟨b, hb, rfl, rfl, HW5⟩ := hrel
            rename World => w5
            have hcl := cK_le N (X.map (fun p => short (at' p.Z))) b
            rw [HAL.out] at hcl
            by_cases hlb : b < n
            · obtain ⟨ad2, q, e2, hq, cq, sq⟩ := (HX4.out.below HW5.out).at b hlb
              have HSQ := hide sq
              obtain rfl := Option.some.inj e2
              have hsn := cK_snoc N (X.map (fun p => short (at' p.Z))) b (short (at' q.Z)) (by rw [List.getElem?_map, hq]; rfl)
              obtain ⟨c, hc⟩ : ∃ c, cK N ((X.map (fun p => short (at' p.Z))).take b) = c := ⟨_, rfl⟩
              rw [hc] at hcl hsn ⊢
              have HSN2 := hide hsn
              clear sq hq hsn hc
              go_wp2_with fail
              refine (norm_any q.vo q.vn q.vc q.Z _ HSQ.out).mono ?_
              rintro e w6 ⟨mo, mn, mc, rfl, s6, b6⟩
              have HSM := hide s6
              have HW6 := hide (HW5.out.trans (b6.mono HW5.out.size))
              have HMN : Hid (mn ≤ maxLen) := by show _ ≤ _; rw [← s6.1, short_length]; have := top_le (at' q.Z); unfold maxLen; omega
              clear s6 b6 cq HSQ HW5
              go_wp2_with fail
              refine (equal_any mo no mn nn mc nc _ N _ HSM.out (HSN.out.below HW6.out) HMN.out).mono ?_
              rintro e w7 ⟨rfl, b7⟩
              have HW7 := hide (HW6.out.trans (b7.mono HW6.out.size))
              clear b7 HW6 HSM HMN
              by_cases he : short (at' q.Z) = N
              · rw [decide_eq_true he]
                have HN2 : Hid (cK N ((X.map (fun p => short (at' p.Z))).take (b + 1)) = c + 1) := by show _ = _; rw [HSN2.out, if_pos he]
                clear he
                go_wp2_with fail
                go_roundw
                case rel => exact ⟨b + 1, by omega, by go_num, by rw [HN2.out]; go_num, HW7⟩
                case measure => simp [intOf]; omega
              · rw [decide_eq_false he]
                have HN2 : Hid (cK N ((X.map (fun p => short (at' p.Z))).take (b + 1)) = c) := by show _ = _; rw [HSN2.out, if_neg he]; rfl
                clear he
                go_wp2_with fail
                go_roundw
                case rel => exact ⟨b + 1, by omega, by go_num, by rw [HN2.out], HW7⟩
                case measure => simp [intOf]; omega
            · obtain rfl : b = n := by omega
              have HTK : Hid ((X.map (fun p => short (at' p.Z))).take b = X.map (fun p => short (at' p.Z))) := List.take_of_length_le (by rw [HAL.out]; exact Nat.le_refl _)
              rw [HTK.out] at hcl ⊢
              obtain ⟨c, hc⟩ : ∃ c, cK N (X.map (fun p => short (at' p.Z))) = c := ⟨_, rfl⟩
              rw [hc] at hcl ⊢
              have HCC : Hid (cK N (Y.map Sv.Z) = c) := by show _ = _; rw [HSC.out N, hc]
              have HY5 := hide (HY4.out.below HW5.out)
              have HSN5 := hide (HSN.out.below HW5.out)
              clear hc HTK
              have HBL : Hid ((Y.map Sv.Z).length = b) := by show _ = _; rw [List.length_map]; exact HYL.out
              go_wp2_with fail
              go_loopw [8, 12, 62] (fun s _ j wz => ∃ t : Nat, t ≤ b ∧ j = .int .i64 t ∧ s = .int .i64 ((c - cK N ((Y.map Sv.Z).take t) : Nat) : Int) ∧ Hid (Below w5.heap.size w5 wz)) (fun _ _ j _ => b - (intOf j).toNat)
              case atStart => exact ⟨0, Nat.zero_le _, rfl, by simp [cK], Below.refl _ _⟩
              case round =>
                obtain ⟨t, ht, rfl, rfl, HW8⟩ := hrel
                rename World => w8
                have hm1 := cK_mono N (Y.map Sv.Z) t
                have hm2 := cK_mono N (Y.map Sv.Z) (t + 1)
                rw [HCC.out] at hm1 hm2
                by_cases hlt2 : t < b
                · obtain ⟨ad3, q, e3, hq, cq, sq⟩ := (HY5.out.below HW8.out).at t hlt2
                  obtain rfl := Option.some.inj e3
                  rw [Addr.add_lit, Nat.zero_add] at cq
                  have HSQ := hide sq
                  have HQ16 := hide (HY16.out q (List.mem_of_getElem? hq))
                  have hsn := cK_snoc N (Y.map Sv.Z) t q.Z (by rw [List.getElem?_map, hq]; rfl)
                  obtain ⟨f, hf⟩ : ∃ f, cK N ((Y.map Sv.Z).take t) = f := ⟨_, rfl⟩
                  obtain ⟨f', hf'⟩ : ∃ f', cK N ((Y.map Sv.Z).take (t + 1)) = f' := ⟨_, rfl⟩
                  rw [hf, hf'] at hsn
                  rw [hf] at hm1 ⊢
                  rw [hf'] at hm2
                  have HF' := hide hf'
                  have HSN2 := hide hsn
                  have HMM := hide (And.intro hm1 hm2)
                  obtain ⟨g, hg⟩ : ∃ g, c - f = g := ⟨_, rfl⟩
                  rw [hg]
                  have HGG := hide hg
                  have hgb : g ≤ 1099511627776 := by have := HN.out; omega
                  clear sq hq hsn hf hf' hm1 hm2 hg
                  go_wp2_with fail
                  refine (equal_any q.vo no q.vn nn q.vc nc q.Z N _ HSQ.out ((HSN5.out).below HW8.out) (by rw [← HSQ.out.1]; have := HQ16.out; unfold maxLen; omega)).mono ?_
                  rintro e w9 ⟨rfl, b9⟩
                  have HW9 := hide (HW8.out.trans (b9.mono HW8.out.size))
                  clear b9 HSQ HQ16 cq HW8
                  by_cases he : q.Z = N
                  · rw [decide_eq_true he]
                    have HG2 : Hid (f' = f + 1) := by show _ = _; rw [HSN2.out, if_pos he]
                    clear he
                    go_wp2_with fail
                    go_roundw
                    case rel => exact ⟨t + 1, by omega, by go_num, by rw [HF'.out]; congr 1; have h1 := HG2.out; have h2 := HMM.out; have h3 := HGG.out; omega, HW9⟩
                    case measure => simp [intOf]; omega
                  · rw [decide_eq_false he]
                    have HG2 : Hid (f' = f) := by show _ = _; rw [HSN2.out, if_neg he]; rfl
                    clear he
                    go_wp2_with fail
                    go_roundw
                    case rel => exact ⟨t + 1, by omega, by go_num, by rw [HF'.out, HG2.out, HGG.out], HW9⟩
                    case measure => simp [intOf]; omega
                · obtain rfl : t = b := by omega
                  have HTK : Hid ((Y.map Sv.Z).take t = Y.map Sv.Z) := List.take_of_length_le (by rw [HBL.out]; exact Nat.le_refl _)
                  rw [HTK.out, HCC.out, Nat.sub_self]
                  have HWF := hide (HW4.out.trans ((HW5.out.trans (HW8.out.mono HW5.out.size)).mono HW4.out.size))
                  clear hm1 hm2
                  go_wp2_with fail
                  go_roundw
                  case rel => exact ⟨a + 1, by have := HLA.out; omega, by go_num, HWF⟩
                  case measure => have := HLA.out; simp [intOf]; omega
        · have HBF := hide (HB1.out.trans (HW.out.mono HB1.out.size))
          go_wp2_with fail
          go_ret
          exact ⟨rfl, HBF.out⟩
end Go.Proofs.Ytibmlkegadcodaa
