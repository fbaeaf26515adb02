/- VectorLatest: the law's walk. -/
import Derived.Test.YtibmlkegadcodaaWLa
namespace Go.Proofs.Ytibmlkegadcodaa
open Go.RowKit Go.Sort V
attribute [local go_sem ↓] ld56_eq st56_eq mkL_eq
attribute [local go_sem] zeros_VC cells_VA

set_option maxRecDepth 100000 in
set_option maxHeartbeats 2000000 in
theorem latest_any (ao : Option Addr) (n cap : Nat) (X : List Sv) (w : World) (hS : VRow w ao n X) : Calls Try.prog 5 #[.slice ao n cap] w fun e w' => e = .returned (.bool true) ∧ Below w.heap.size w w' := by
  have HS := hide hS
  have HL : Hid (X.length = n) := hS.len
  clear hS
  go_enter Try.func5, Try.ntmps5
  go_wp2_with fail
  refine (heads_any (some ⟨w.heap.size + 1 + 1 + 1 + 1 + 1, 0, none⟩) 5 5 (X5 w.heap.size) _ (five_row w) (by omega)).mono ?_
  rintro e w1 ⟨qo, h, Y, d, rfl, v1, y1, p1, o1, b1⟩
  have hh : h = 2 := by
    rw [← v1.len, ← List.length_map (f := Sv.Z), y1, List.length_map]
    exact five_heads p1 o1
  subst hh
  have HB1 : Hid (Below w.heap.size w w1) := by
    show Below _ _ _
    refine Below.trans ?_ (b1.mono (by simp only [World.size_alloc]; omega))
    exact ((((((Below.refl w.heap.size w).alloc (Nat.le_refl _) _).alloc (by simp only [World.size_alloc]; omega) _).alloc (by simp only [World.size_alloc]; omega) _).alloc (by simp only [World.size_alloc]; omega) _).alloc (by simp only [World.size_alloc]; omega) _).alloc (by simp only [World.size_alloc]; omega) _
  have HS1 := hide (HS.out.below HB1.out)
  clear v1 y1 p1 o1 b1 HS
  go_wp2_with fail
  by_cases hbig : 256 < n
  · refine (heads_big ao n cap _ hbig).mono ?_
    rintro e w2 ⟨rfl, b2⟩
    have HB2 := hide (HB1.out.trans (b2.mono HB1.out.size))
    clear b2
    go_wp2_with fail
    go_ret
    exact ⟨rfl, HB2.out⟩
  · refine (heads_any ao n cap X _ HS1.out (by omega)).mono ?_
    rintro e w2 ⟨qo, h, Y, d, rfl, v2, y2, p2, o2, b2⟩
    have HB2 := hide (HB1.out.trans (b2.mono HB1.out.size))
    have HX2 := hide (HS1.out.below b2)
    have HY2 := hide v2
    have HYL : Hid (Y.length = h) := v2.len
    have HH := hide (headsOf y2 p2 o2)
    have HLE : Hid (h ≤ 256) := by
      have a := v2.len
      have b := congrArg List.length y2
      have c := hd_len (Lib.compactUpTo d d.size)
      have e1 : (Lib.compactUpTo d d.size).length ≤ d.size := by
        unfold Lib.compactUpTo
        rw [List.length_map]
        exact Nat.le_trans (List.length_filter_le _ _) (by simp)
      have e2 := p2.length_eq
      simp only [List.length_map, Array.length_toList] at b e2
      have := HL.out
      show h ≤ 256
      omega
    have hle := HLE.out
    have HNB : Hid (n ≤ 256) := by show _ ≤ _; omega
    clear v2 y2 p2 o2 b2 HB1 HS1
    go_wp2_with fail
    go_loopw [5, 6] (fun i _ wr => ∃ a : Nat, a ≤ h ∧ i = .int .i64 a ∧ Hid (Below w2.heap.size w2 wr)) (fun i _ _ => h - (intOf i).toNat)
    case atStart => exact ⟨0, Nat.zero_le _, rfl, Below.refl _ _⟩
    case round =>
      obtain ⟨a, ha, rfl, HW⟩ := hrel
      by_cases hla : a < h
      · have HLA := hide hla
        have HYr := hide (HY2.out.below HW.out)
        go_wp2_with fail
        go_loopw [6] (fun j wz => ∃ b : Nat, b ≤ h ∧ j = .int .i64 b ∧ Hid (Below wr.heap.size wr wz)) (fun j _ => h - (intOf j).toNat)
        case atStart => exact ⟨0, Nat.zero_le _, rfl, Below.refl _ _⟩
        case round =>
          obtain ⟨b, hb, rfl, HW3⟩ := hrel
          rename World => wq
          by_cases hlb : b < h
          · have HLB := hide hlb
            by_cases hab : a = b
            · subst hab
              go_wp2_with fail
              refine wp_region_quiet_below (by kernel_rfl) (by kernel_rfl) ?_
              repeat (with_reducible (refine wpQuiet_step ?_); intro K hK; go_simp; (try rw [if_neg (by unfold undef; simp)]); first | (with_reducible (refine hK _ ?_); clear hK K) | (apply Exists.intro; refine ⟨fun _ => ?_, hK _ ?_⟩; fail; clear hK K))
              with_reducible (refine wpQuiet_nil ?_)
              intro w5 hw'
              obtain ⟨⟨dq, osq⟩, hw''⟩ := hw'
              have b5 : Below wq.heap.size wq w5 := by rw [hw'']; exact below_regrown wq dq osq
              have HW5 := hide (HW3.out.trans (b5.mono HW3.out.size))
              clear hw'' b5
              go_wp2_with fail
              go_roundw
              case rel => exact ⟨a + 1, by have := HLB.out; omega, by go_num, HW5⟩
              case measure => have := HLB.out; simp [intOf]; omega
            · obtain ⟨ad1, p, e1, hp, cp, sp⟩ := (HYr.out.below HW3.out).at a hla
              obtain rfl := Option.some.inj e1
              obtain ⟨ad2, q, e2, hq, cq, sq⟩ := (HYr.out.below HW3.out).at b hlb
              obtain rfl := Option.some.inj e2
              rw [Addr.add_lit, Nat.zero_add] at cp cq
              have hz := HH.out.apart a b p q hab hp hq
              have hab2 : ¬ ((a : Int) = (b : Int)) := by omega
              have cC : ∀ d os, Calls Try.prog 16 #[SvV p, SvV q] (Sort.grow (redrawn wq d) os) fun e w'' => e = .returned (.int .i64 3) ∧ ∃ p : Regrown, w'' = Sort.grow (redrawn wq p.d) p.os := fun d os => by
                have := vorder_any p.vo q.vo p.vn p.vc q.vn q.vc p.Z q.Z (Sort.grow (redrawn wq d) os) (sp.below (below_regrown wq d os)) (sq.below (below_regrown wq d os))
                rw [hz] at this
                exact Calls.regrown_of this
              have k1 := cell_regrown cp
              have k2 := cell_regrown cq
              clear cp cq sp sq hp hq hz e1 e2
              go_wp2_with fail
              refine wp_region_quiet_below (by kernel_rfl) (by kernel_rfl) ?_
              repeat (with_reducible (refine wpQuiet_step ?_); intro K hK; go_simp; (try rw [if_neg (by unfold undef; simp)]); first | (with_reducible (refine hK _ ?_); clear hK K) | (apply Exists.intro; refine ⟨fun _ => ?_, hK _ ?_⟩; go_at_call 16; exact cC _ _; clear hK K))
              with_reducible (refine wpQuiet_nil ?_)
              intro w5 hw'
              obtain ⟨⟨dq, osq⟩, hw''⟩ := hw'
              have b5 : Below wq.heap.size wq w5 := by rw [hw'']; exact below_regrown wq dq osq
              have HW5 := hide (HW3.out.trans (b5.mono HW3.out.size))
              clear hw'' b5 cC k1 k2
              go_wp2_with fail
              go_roundw
              case rel => exact ⟨b + 1, by have := HLB.out; omega, by go_num, HW5⟩
              case measure => have := HLB.out; simp [intOf]; omega
          · have HW5 := hide (HW.out.trans (HW3.out.mono HW.out.size))
            go_wp2_with fail
            go_roundw
            case rel => exact ⟨a + 1, by have := HLA.out; omega, by go_num, HW5⟩
            case measure => have := HLA.out; simp [intOf]; omega
      · have HX3 := hide (HX2.out.below HW.out)
        have HY3 := hide (HY2.out.below HW.out)
        have HB3 := hide (HB2.out.trans (HW.out.mono HB2.out.size))
        clear HX2 HY2 HB2 HW
        go_wp2_with fail
        go_loopw [8, 9, 11, 75] (fun _ _ _ i wz => ∃ a : Nat, a ≤ n ∧ i = .int .i64 a ∧ Hid (Below wr.heap.size wr wz)) (fun _ _ _ i _ => n - (intOf i).toNat)
        case atStart => exact ⟨0, Nat.zero_le _, rfl, Below.refl _ _⟩
        case round =>
          obtain ⟨b, hb, rfl, HW⟩ := hrel
          rename World => wq
          by_cases hlb : b < n
          · have HLB := hide hlb
            obtain ⟨ad1, p, e1, hp, cp, sp⟩ := (HX3.out.below HW.out).at b hlb
            have HSP := hide sp
            have HY4 := hide (HY3.out.below HW.out)
            have HOV : Hid (Y.any (fun q => leF (at' p.Z) (at' q.Z)) = true) := by
              obtain ⟨q, hq, hl⟩ := HH.out.over p (List.mem_of_getElem? hp)
              exact List.any_eq_true.2 ⟨q, hq, hl⟩
            subst e1
            clear sp hp
            go_wp2_with fail
            clear cp
            go_loopw [9, 11, 81] (fun s _ j wz => ∃ c : Nat, c ≤ h ∧ j = .int .i64 c ∧ s = .bool ((Y.take c).any (fun q => leF (at' p.Z) (at' q.Z))) ∧ Hid (Below wq.heap.size wq wz)) (fun _ _ j _ => h - (intOf j).toNat)
            case atStart => exact ⟨0, Nat.zero_le _, rfl, by simp, Below.refl _ _⟩
            case round =>
              obtain ⟨c, hc, rfl, rfl, HW5⟩ := hrel
              rename World => w5
              by_cases hlc : c < h
              · have HLC := hide hlc
                obtain ⟨ad2, q, e2, hq, cq, sq⟩ := (HY4.out.below HW5.out).at c hlc
                obtain rfl := Option.some.inj e2
                rw [Addr.add_lit, Nat.zero_add] at cq
                have HSQ := hide sq
                have HSP5 := hide (HSP.out.below HW5.out)
                have HSN : Hid ((Y.take (c + 1)).any (fun q => leF (at' p.Z) (at' q.Z)) = ((Y.take c).any (fun q => leF (at' p.Z) (at' q.Z)) || leF (at' p.Z) (at' q.Z))) := by
                  show _ = _
                  rw [List.take_add_one, hq, List.any_append]
                  simp
                generalize (Y.take c).any (fun q => leF (at' p.Z) (at' q.Z)) = s at HSN ⊢
                clear sq hq e2
                go_wp2_with fail
                refine (most_any p.vo q.vo p.vn p.vc q.vn q.vc p.Z q.Z _ HSP5.out HSQ.out).mono ?_
                rintro e w6 ⟨rfl, b6⟩
                have HW6 := hide (HW5.out.trans (b6.mono HW5.out.size))
                clear b6 cq HSQ HW5 HSP5
                generalize leF (at' p.Z) (at' q.Z) = z at HSN ⊢
                cases z with
                | true =>
                  go_wp2_with fail
                  go_roundw
                  case rel => exact ⟨c + 1, by have := HLC.out; omega, by go_num, by rw [HSN.out]; simp, HW6⟩
                  case measure => have := HLC.out; simp [intOf]; omega
                | false =>
                  go_wp2_with fail
                  go_roundw
                  case rel => exact ⟨c + 1, by have := HLC.out; omega, by go_num, by rw [HSN.out]; simp, HW6⟩
                  case measure => have := HLC.out; simp [intOf]; omega
              · have hch : c = h := by omega
                have hY : (Y.take c).any (fun q => leF (at' p.Z) (at' q.Z)) = true := by
                  rw [hch, ← HYL.out, List.take_length]; exact HOV.out
                rw [hY]
                have HW6 := hide (HW.out.trans (HW5.out.mono HW.out.size))
                clear hY
                go_wp2_with fail
                go_roundw
                case rel => exact ⟨b + 1, by have := HLB.out; omega, by go_num, HW6⟩
                case measure => have := HLB.out; simp [intOf]; omega
          · have HX4 := hide (HX3.out.below HW.out)
            have HY4 := hide (HY3.out.below HW.out)
            have HB4 := hide (HB3.out.trans (HW.out.mono HB3.out.size))
            have HM := hide (merge_heads HH.out)
            clear HX3 HY3 HB3 HW
            go_wp2_with fail
            refine (merge_any _ h h _ _ _ _ _ HY4.out.rowsL (by have := HLE.out; unfold maxLen; omega)).mono ?_
            rintro e w6 ⟨o6, n6, c6, rfl, s6, b6⟩
            have HS6 := hide s6
            have HX6 := hide (HX4.out.below b6)
            have HB6 := hide (HB4.out.trans (b6.mono HB4.out.size))
            clear s6 b6 HX4 HY4 HB4
            go_wp2_with fail
            refine (merge_any ao n cap _ _ _ _ _ HX6.out.rowsL (by have := HNB.out; unfold maxLen; omega)).mono ?_
            rintro e w7 ⟨o7, n7, c7, rfl, s7, b7⟩
            have HS7 := hide s7
            have HS67 := hide (HS6.out.below b7)
            have HB7 := hide (HB6.out.trans (b7.mono HB6.out.size))
            clear s7 b7 HS6 HX6 HB6
            go_wp2_with fail
            refine (equal_any o6 o7 n6 n7 c6 c7 _ _ _ HS67.out HS7.out (by have hq := HS67.out.1; rw [short_length] at hq; have := top_le (mergeF (rowZ Y) h); unfold maxLen; omega)).mono ?_
            rintro e w8 ⟨rfl, b8⟩
            have HB8 := hide (HB7.out.trans (b8.mono HB7.out.size))
            have HQ : Hid (short (mergeF (rowZ Y) h) = short (mergeF (rowZ X) n)) := by show _ = _; rw [← HYL.out, ← HL.out]; exact HM.out
            clear b8
            go_wp2_with fail
            go_ret
            exact ⟨by simp [HQ.out], HB8.out⟩
end Go.Proofs.Ytibmlkegadcodaa
