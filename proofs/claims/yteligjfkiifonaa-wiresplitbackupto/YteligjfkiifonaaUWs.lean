/- WireSplitBack: the law. -/
import Derived.Test.YteligjfkiifonaaUPq
import Derived.Test.YteligjfkiifonaaUSz
import Derived.Test.YteligjfkiifonaaUVw
import Derived.Deep.DeepCutAuto
namespace Go.Proofs.Yteligjfkiifonaa
open Go.RowKit
variable {w w' w2 : World} {lo : Option Addr} {ln lc : Nat} {L : List (List Int)} {Z : List Int}

/-- one frame, laid -/
theorem lit1 (w : World) : LS ((w.alloc (.cells #[.int .u8 65] 5 (1, 2))).alloc (.cells #[.slice (some ⟨w.heap.size, 0, none⟩) 1 1] 23)) (some ⟨w.heap.size + 1, 0, none⟩) 1 1 [[65]] := by
  have h1 := heap_alloc_new w (.cells #[.int .u8 65] 5 (1, 2))
  have s1 := World.size_alloc w (.cells #[.int .u8 65] 5 (1, 2))
  generalize w.alloc (.cells #[.int .u8 65] 5 (1, 2)) = w1 at h1 s1
  have b3 := below_new w1 (.cells #[.slice (some ⟨w.heap.size, 0, none⟩) 1 1] 23)
  have h3 := heap_alloc_new w1 (.cells #[.slice (some ⟨w.heap.size, 0, none⟩) 1 1] 23)
  generalize w1.alloc (.cells #[.slice (some ⟨w.heap.size, 0, none⟩) 1 1] 23) = w3 at b3 h3
  have g1 := (b3.block _ (by omega)).trans h1
  rw [s1] at h3
  refine ⟨rfl, fun h => (by cases h), fun ad ha i hi => ?_⟩
  obtain rfl := Option.some.inj ha
  match i, hi with
  | 0, _ =>
    refine ⟨some ⟨w.heap.size, 0, none⟩, 1, 1, by rw [Addr.add_lit]; simp [World.cell?, h3], rfl, fun h => (by cases h), fun ad ha t ht => ?_⟩
    obtain rfl := Option.some.inj ha
    match t, ht with
    | 0, _ => rw [Addr.add_lit]; simp [World.cell?, g1]
theorem join1 : joinB [[65]] = [1, 65] := by simp [joinB, numB_lt]
theorem str1 : strOfNums [1, 65] = ⟨#[1, 65]⟩ := rfl
theorem oct_app {X Y : List Int} (hX : ∀ t, 0 ≤ X.getD t 0 ∧ X.getD t 0 ≤ 255) (hY : ∀ t, 0 ≤ Y.getD t 0 ∧ Y.getD t 0 ≤ 255) (t : Nat) : 0 ≤ (X ++ Y).getD t 0 ∧ (X ++ Y).getD t 0 ≤ 255 := by
  by_cases h : t < X.length
  · have := hX t
    rw [List.getD_eq_getElem?_getD] at this ⊢
    rw [List.getElem?_append_left h]
    exact this
  · have := hY (t - X.length)
    rw [List.getD_eq_getElem?_getD] at this ⊢
    rw [List.getElem?_append_right (by omega)]
    exact this
theorem joinB_oct : ∀ (L : List (List Int)), (∀ Y ∈ L, ∀ t, 0 ≤ Y.getD t 0 ∧ Y.getD t 0 ≤ 255) → ∀ t, 0 ≤ (joinB L).getD t 0 ∧ (joinB L).getD t 0 ≤ 255
  | [], _, t => by simp [joinB]
  | Y :: L, h, t => by
    rw [joinB_cons]
    exact oct_app (oct_app (numB_oct _) (h Y (List.mem_cons_self ..))) (joinB_oct L (fun X hX => h X (List.mem_cons_of_mem _ hX))) t
theorem B2.mem {W : World} (h : B2 W lo ln lc L) {Y : List Int} (hY : Y ∈ L) : Y.length ≤ 1048576 ∧ ∀ t, 0 ≤ Y.getD t 0 ∧ Y.getD t 0 ≤ 255 := by
  obtain ⟨i, hi, e⟩ := List.getElem_of_mem hY
  have := h.each i
  rw [List.getD_eq_getElem?_getD, List.getElem?_eq_getElem hi, e] at this
  exact this
theorem BR.src {ao : Option Addr} {n c : Nat} (B : BR w ao n c Z) (h : ∀ t, 0 ≤ Z.getD t 0 ∧ Z.getD t 0 ≤ 255) : Src w ao n c Z := ⟨B.bs.len, B.bs.nil, B.bs.cell, h⟩
theorem B2.join2 {W : World} (h : B2 W lo ln lc L) : (joinB L).length < 4000000000000 := by
  have key : ∀ k, k ≤ L.length → (joinB (L.take k)).length ≤ k * 1048585 := by
    intro k
    induction k with
    | zero => intro _; simp [joinB]
    | succ k ih =>
      intro hk
      rw [joinB_succ L k (by omega), List.length_append, List.length_append]
      have h1 := (h.each k).1
      have h2 := numB_nine (n := (L.getD k []).length) (by omega)
      have h3 := ih (by omega)
      omega
  have := key L.length (Nat.le_refl _)
  rw [List.take_length] at this
  have h2 := h.ls.len
  have h3 := h.big
  omega
theorem modn (cut : Int) (J : Nat) (h : 0 < J) (hJ : J < 4000000000000) : ∃ nn : Nat, wrap64 ((IntKind.u64.wrap cut).tmod (J : Int)) = (nn : Int) ∧ nn ≤ J := by
  rw [IntKind.wrap_u64]
  have h0 : 0 ≤ cut % 18446744073709551616 := Int.emod_nonneg _ (by decide)
  rw [Int.tmod_eq_emod_of_nonneg h0]
  have h1 := Int.emod_nonneg (cut % 18446744073709551616) (show (J : Int) ≠ 0 by omega)
  have h2 := Int.emod_lt_of_pos (cut % 18446744073709551616) (show (0 : Int) < J by omega)
  refine ⟨((cut % 18446744073709551616) % (J : Int)).toNat, ?_, by omega⟩
  generalize (cut % 18446744073709551616) % (J : Int) = x at h1 h2
  rw [w64 (by omega) (by omega)]
  omega
/-- what the loop tells of the frames read so far -/
def SK (L : List (List Int)) (nn k : Nat) (e p : Int) : Prop := e = ends L nn k ∧ p = ((joinB (L.take k)).length : Int)
theorem take_over (L : List (List Int)) {k : Nat} (h : L.length ≤ k) : L.take k = L := List.take_of_length_le h
set_option maxRecDepth 100000 in
set_option maxHeartbeats 4000000 in
theorem wireSplitBack_any (lo : Option Addr) (ln lc : Nat) (L : List (List Int)) (bo : Option Addr) (n c : Nat) (Z : List Int) (cut : Int) (w : World) (S : B2 w lo ln lc L) (B : B1 w bo n c Z) :
    Calls Try.prog 5 #[.slice lo ln lc, .slice bo n c, .int .i64 cut] w fun r w' => r = .returned (.bool true) ∧ Below w.heap.size w w' := by
  have HS := hide S
  have HB := hide B
  have HL := hide (BR.lit w)
  have HB0 := hide (B.s.bs.below (below_new w (.cells #[] 5)))
  have HN0 : Hid (0 + n ≤ 140737488355328) := by show _ ≤ _; have := B.big; omega
  clear S B
  go_enter Try.func5, Try.ntmps5
  go_wp2_with (at_builtin; refine HL.out.appB HB0.out HN0.out rfl (.tmp 19) (.tmp 20) rfl rfl rfl ?_; intro b1 c1 w1 B1 A1; rw [Nat.zero_add] at B1 ⊢; rw [List.nil_append] at B1; have hs1 := B1.bs.str; have HB1 := hide B1; have HW1 := hide A1.fresh.1; have HC1 := hide (join_any lo ln lc L w1 (HS.out.ls.below A1.fresh.1) (by have := HS.out.big; omega) HS.out.join); clear B1 A1)
  refine HC1.out.mono ?_
  rintro r w2 ⟨b2, l2, c2, rfl, B2, N2⟩
  have hl2 := B2.len
  subst hl2
  have HW2 := hide (HW1.out.trans (N2.1.mono HW1.out.size))
  have HA2 := hide B2
  have HB2 := hide (HB1.out.below N2.1)
  have hc1 := Lib.run_convert_bytes_const (P := Try.prog) w2 23 5 #[.int .u8 65] 1 1 Try.underlying23 Try.underlying5
  have HC2 := hide (join_any _ 1 1 _ _ (lit1 w2) (by decide) (by rw [join1]; decide))
  have b3 := below_new w2 (.cells #[.int .u8 65] 5 (1, 2))
  have b4 := below_new (w2.alloc (.cells #[.int .u8 65] 5 (1, 2))) (.cells #[.slice (some ⟨w2.heap.size, 0, none⟩) 1 1] 23)
  have HD := hide (b3.trans (b4.mono b3.size))
  clear B2 N2 HC1 HL HB0 HN0 hs1 b3 b4 HB1
  go_wp2_with fail
  refine HC2.out.mono ?_
  rintro r w3 ⟨b3, l3, c3, rfl, B3, N3⟩
  rw [join1] at B3
  have hs3 := B3.bs.str
  rw [str1] at hs3
  have hb3 := HD.out.trans (N3.1.mono HD.out.size)
  have HW3 := hide (HW2.out.trans (hb3.mono HW2.out.size))
  have HA3 := hide (HA2.out.below hb3)
  have HB3 := hide (HB2.out.below hb3)
  have HO : Hid (∀ t, 0 ≤ (joinB L).getD t 0 ∧ (joinB L).getD t 0 ≤ 255) := joinB_oct L (fun Y hY => (HS.out.mem hY).2)
  have HM : Hid (∀ Y ∈ L, Y.length ≤ 9223372036854775807) := fun Y hY => by have := (HS.out.mem hY).1; omega
  have HC3 := hide (split_any b2 _ c2 _ w3 (HA3.out.src HO.out) HA3.out.cap HS.out.join2)
  clear B3 N3 hb3 HC2 hc1 HD HA2 HB2
  go_wp2_with fail
  refine HC3.out.mono ?_
  intro r w4 h4
  obtain ⟨g4, q4, rfl, b4, L4⟩ := h4.ls
  have e4 : spD (joinB L) = L := by unfold spD; rw [splA_join L HM.out]; rfl
  have e5 : (splA (joinB L)).2 = 0 := by rw [splA_join L HM.out]
  have hll : L.length = ln := HS.out.ls.len
  rw [e4, hll] at L4 ⊢
  rw [e5]
  have HW4 := hide (HW3.out.trans (b4.mono HW3.out.size))
  have HA4 := hide (HA3.out.below b4)
  have HB4 := hide (HB3.out.below b4)
  have HG4 := hide L4
  have HLL := hide hll
  clear h4 b4 L4 HC3 e4 e5 hll hs3 HA3 HB3
  obtain ⟨J, hJ⟩ : ∃ J, (joinB L).length = J := ⟨_, rfl⟩
  have HJ : Hid ((joinB L).length = J ∧ J < 4000000000000) := ⟨hJ, by rw [← hJ]; exact HS.out.join2⟩
  rw [hJ] at HA4 ⊢
  clear hJ
  go_upto_if 48 with fail
  go_cut [12] (fun s12 wx => ∃ nn : Nat, s12 = .int .i64 nn ∧ Hid (nn ≤ J) ∧ wx = w4)
  case first =>
    as_aux_lemma =>
      by_cases hj0 : 0 < J
      · have hu : ((J : Int) % 18446744073709551616) = J := by have := HJ.out.2; omega
        obtain ⟨nn, e1, e2⟩ := modn cut J hj0 HJ.out.2
        have HN := hide e2
        clear e2
        go_wp2_with fail
        go_meet
        exact ⟨nn, by rw [e1], HN, rfl⟩
      · obtain rfl : J = 0 := by omega
        go_wp2_with fail
        go_meet
        exact ⟨0, rfl, Nat.le_refl _, rfl⟩
  case rest =>
    obtain ⟨nn, rfl, HNN, rfl⟩ := hcut
    go_wp2_with fail
    go_loopw [11, 13, 14] (fun e p i wr => ∃ (k : Nat) (ev pv : Int), k ≤ ln + 1 ∧ e = .int .i64 ev ∧ p = .int .i64 pv ∧ i = .int .i64 k ∧ Hid (SK L nn k ev pv) ∧ Hid (Below wc.heap.size wc wr)) (fun _ _ i _ => ln + 1 - (intOf i).toNat)
    case atStart => exact ⟨0, -1, 0, Nat.zero_le _, rfl, rfl, rfl, ⟨rfl, by simp [joinB]⟩, Below.refl _ _⟩
    case round =>
      obtain ⟨k, ev, pv, hk, rfl, rfl, rfl, HK, HBr⟩ := hrel
      by_cases hle : k ≤ ln
      · have HK1 : Hid (wrap64 ((k : Int) + 1) = ((k + 1 : Nat) : Int)) := by show _ = _; have := HS.out.big; rw [w64 (by omega) (by omega)]; rfl
        obtain ⟨ev2, hev2⟩ : ∃ ev2, (if pv = (nn : Int) then (k : Int) else ev) = ev2 := ⟨_, rfl⟩
        have HE2 : Hid (ev2 = ends L nn (k + 1)) := by
          show _ = _
          unfold ends
          rw [← hev2, HK.out.2, ← HK.out.1]
          split
          · rename_i h; rw [if_pos (by omega)]
          · rename_i h; rw [if_neg (by omega)]
        have HEV := hide hev2
        clear hev2
        go_upto_if 64 with fail
        go_cut [11] (fun s11 wx => s11 = .int .i64 ev2 ∧ wx = wr)
        case first =>
          as_aux_lemma =>
            by_cases hp : pv = (nn : Int)
            · obtain rfl : (k : Int) = ev2 := by rw [← HEV.out, if_pos hp]
              have hpb : (pv == (nn : Int)) = true := by simpa using hp
              go_wp2_with fail
              go_meet
              exact ⟨rfl, rfl⟩
            · obtain rfl : ev = ev2 := by rw [← HEV.out, if_neg hp]
              have hpb : (pv == (nn : Int)) = false := by simpa using hp
              go_wp2_with fail
              go_meet
              exact ⟨rfl, rfl⟩
        case rest =>
          obtain ⟨rfl, ecut⟩ := hcut
          obtain rfl := ecut.symm
          by_cases hlt : k < ln
          · have HLT := hide hlt
            obtain ⟨a1, s1, m1, d1, rfl, hc1, S1⟩ := (HG4.out.below HBr.out).at k hlt
            obtain ⟨a2, s2, m2, d2, rfl, hc2, S2⟩ := (HS.out.ls.below (HW4.out.trans (HBr.out.mono HW4.out.size))).at k hlt
            obtain ⟨Y, hY⟩ : ∃ Y, L.getD k [] = Y := ⟨_, rfl⟩
            rw [hY] at S1 S2
            have hv1 : ∀ i, (convert 23 9 (.slice s1 m1 d1)).run Try.prog (wr.drewN i) = .ok (.string (strOfNums Y)) (wr.drewN i) := fun i => (S1.below (below_drewN wr i)).str
            have hv2 : ∀ i, (convert 23 9 (.slice s2 m2 d2)).run Try.prog (wr.drewN i) = .ok (.string (strOfNums Y)) (wr.drewN i) := fun i => (S2.below (below_drewN wr i)).str
            have hm2 : Y.length = m2 := S2.len
            have hm3 : m2 ≤ 1048576 := by have := (HS.out.each k).1; rw [hY, hm2] at this; exact this
            obtain ⟨pv2, hpv2⟩ : ∃ pv2 : Int, ((joinB (L.take (k + 1))).length : Int) = pv2 := ⟨_, rfl⟩
            have hj := joinB_succ L k (by rw [HLL.out]; exact hlt)
            rw [hY, hm2] at hj
            have hjl := congrArg List.length hj
            rw [List.length_append, List.length_append, hm2] at hjl
            have hpv := HK.out.2
            have h2 := joinB_le L (k + 1)
            rw [HJ.out.1] at h2
            obtain ⟨sz, hsz⟩ : ∃ sz, (numB m2).length = sz := ⟨_, rfl⟩
            rw [hsz] at hjl
            have ew1 : wrap64 (pv + (sz : Int)) = pv + (sz : Int) := by have := HJ.out.2; rw [w64 (by omega) (by omega)]
            have ew2 : wrap64 (pv + (sz : Int) + (m2 : Int)) = pv2 := by have := HJ.out.2; rw [w64 (by omega) (by omega), ← hpv2]; omega
            have HSz : Hid (∀ W : World, Calls Try.prog 11 #[.int .i64 (m2 : Int)] W fun e w' => e = .returned (.int .i64 (sz : Int)) ∧ w' = W) := fun W => by have := size_numB m2 W (by omega); rw [hsz] at this; exact this
            have HP2 := hide hpv2
            clear S1 S2 hm2 hm3 hj hjl hpv h2 hY hsz hpv2
            go_wp2_with fail
            go_quiet (fail)
            have q2 : (wr.drewN nq).cell? (a2.add k) = some (.slice s2 m2 d2) := hc2
            have HBd := hide (HBr.out.trans ((below_drewN wr nq).mono HBr.out.size))
            clear hv1 hv2 hc1 hc2 HBr
            generalize wr.drewN nq = wd at q2 HBd ⊢
            go_wp2_with fail
            go_quiet ((go_at_call 11; exact Calls.quiet_of_same (HSz.out _)))
            have HBe := hide (HBd.out.trans ((below_drewN wd nq).mono HBd.out.size))
            clear q2 HBd
            generalize wd.drewN nq = wf at HBe ⊢
            go_wp2_with fail
            go_roundw
            case rel => exact ⟨k + 1, ev2, _, by have := HLT.out; omega, rfl, rfl, by rw [HK1.out], ⟨HE2.out, by rw [HP2.out]; first | rfl | exact ew2⟩, HBe⟩
            case measure => rw [HK1.out]; have := HLT.out; simp [intOf]; omega
          · obtain rfl : k = ln := by omega
            go_wp2_with fail
            go_roundw
            case rel => exact ⟨k + 1, ev2, _, Nat.le_refl _, rfl, rfl, by rw [HK1.out], ⟨HE2.out, by rw [take_over L (by rw [HLL.out]; omega)]; have := HK.out.2; rw [take_over L (by rw [HLL.out]; omega)] at this; exact this⟩, HBr⟩
            case measure => rw [HK1.out]; simp [intOf]
      · obtain rfl : k = ln + 1 := by omega
        have hpJ : pv = (J : Int) := by rw [HK.out.2, take_over L (by rw [HLL.out]; omega), HJ.out.1]
        subst hpJ
        have HEn : Hid (ev = ends L nn (L.length + 1)) := by show _ = _; rw [HK.out.1, HLL.out]
        have hWr := HW4.out.trans (HBr.out.mono HW4.out.size)
        have HWr := hide hWr
        have HAr := hide (HA4.out.below HBr.out)
        have HBr2 := hide (HB4.out.below HBr.out)
        have HZo := hide HB.out.s.2.2.2
        have HTk : Hid ((0 ≤ ev → (splA ((joinB L).take nn)).2 = 0 ∧ ((splA ((joinB L).take nn)).1.length : Int) = ev) ∧ (ev < 0 → (splA ((joinB L).take nn)).2 = 50)) := by
          have := splA_take L nn HM.out (by rw [HJ.out.1]; exact HNN.out)
          rw [← HEn.out] at this
          exact this
        have HS2 := hide (HAr.out.src HO.out)
        have hcc := HAr.out.cap
        have HTc : Hid (nn ≤ c2) := by show _ ≤ _; have := HNN.out; omega
        clear hle hk hWr HBr HA4 HB4 HG4 hcc
        cases b2 with
        | none =>
          have h0 := HS2.out.2.1 rfl
          obtain ⟨rfl, rfl⟩ := h0
          obtain rfl : nn = 0 := by have := HNN.out; omega
          have HT : Hid (Src wr none 0 0 ((joinB L).take 0)) := ⟨rfl, fun _ => ⟨rfl, rfl⟩, fun ad h => (by cases h), fun t => by simp⟩
          have HC5 := hide (split_any _ 0 0 _ wr HT.out HTc.out (by have := HJ.out.2; have := HNN.out; omega))
          go_wp2_with fail
          refine HC5.out.mono ?_
          intro r w5 h5
          obtain ⟨p5, q5, rfl, b5, -⟩ := h5.ls
          have HW5 := hide (HWr.out.trans (b5.mono HWr.out.size))
          have HB5 := hide (HBr2.out.below b5)
          obtain ⟨i1, i2⟩ := HTk.out
          by_cases hev : 0 ≤ ev
          · obtain ⟨j1, j2⟩ := i1 hev
            have e5 : spD ((joinB L).take 0) = (splA ((joinB L).take 0)).1 := by unfold spD; rw [if_pos j1]
            rw [j1, e5]
            rw [← e5] at j2
            rw [← e5]
            obtain ⟨pl, hpl⟩ : ∃ pl, (spD ((joinB L).take 0)).length = pl := ⟨_, rfl⟩
            rw [hpl] at j2 ⊢
            subst j2
            clear h5 b5 HC5 i1 i2 j1 e5 hpl HTk hev HEn HK
            have HC6 := hide (split_any b1 n c1 Z w5 (HB5.out.src HZo.out) HB5.out.cap (by have := HB.out.big; omega))
            go_wp2_with fail
            refine HC6.out.mono ?_
            intro r w6 h6
            obtain ⟨p6, q6, rfl, b6, L6⟩ := h6.ls
            have HW6 := hide (HW5.out.trans (b6.mono HW5.out.size))
            by_cases hg : (splA Z).2 = 0
            · have e6 : joinB (spD Z) = Z := by unfold spD; rw [if_pos hg]; exact join_splA Z HZo.out hg
              have HC7 := hide (join_any p6 _ q6 (spD Z) w6 L6 (by have := spD_len Z; have := HB.out.s.1; have := HB.out.big; omega) (by rw [e6, HB.out.s.1]; have := HB.out.big; omega))
              rw [hg]
              clear h6 b6 L6 HC6 hg
              go_wp2_with fail
              refine HC7.out.mono ?_
              rintro r w7 ⟨b7, l7, c7, rfl, B7, N7⟩
              rw [e6] at B7
              have hs7 := B7.bs.str
              have HE := hide (HW6.out.trans (N7.1.mono HW6.out.size))
              clear B7 N7 HC7 e6
              go_wp2_with fail
              go_ret
              exact ⟨rfl, HE.out⟩
            · have e6 : (spD Z).length = 0 := by unfold spD; rw [if_neg hg]; rfl
              have hg1 : ((splA Z).2 != 0) = true := by simpa using hg
              rw [e6]
              generalize (splA Z).2 = x at hg1 ⊢
              clear h6 b6 L6 HC6 hg
              go_wp2_with fail
              go_ret
              exact ⟨rfl, HW6.out⟩
          · have j1 := i2 (by omega)
            have e5 : (spD ((joinB L).take 0)).length = 0 := by unfold spD; rw [if_neg (by rw [j1]; decide)]; rfl
            rw [j1, e5]
            have hev1 : ev < 0 := by omega
            clear h5 b5 HC5 i1 i2 j1 e5 HTk hev HEn HK
            have HC6 := hide (split_any b1 n c1 Z w5 (HB5.out.src HZo.out) HB5.out.cap (by have := HB.out.big; omega))
            go_wp2_with fail
            refine HC6.out.mono ?_
            intro r w6 h6
            obtain ⟨p6, q6, rfl, b6, L6⟩ := h6.ls
            have HW6 := hide (HW5.out.trans (b6.mono HW5.out.size))
            by_cases hg : (splA Z).2 = 0
            · have e6 : joinB (spD Z) = Z := by unfold spD; rw [if_pos hg]; exact join_splA Z HZo.out hg
              have HC7 := hide (join_any p6 _ q6 (spD Z) w6 L6 (by have := spD_len Z; have := HB.out.s.1; have := HB.out.big; omega) (by rw [e6, HB.out.s.1]; have := HB.out.big; omega))
              rw [hg]
              clear h6 b6 L6 HC6 hg
              go_wp2_with fail
              refine HC7.out.mono ?_
              rintro r w7 ⟨b7, l7, c7, rfl, B7, N7⟩
              rw [e6] at B7
              have hs7 := B7.bs.str
              have HE := hide (HW6.out.trans (N7.1.mono HW6.out.size))
              clear B7 N7 HC7 e6
              go_wp2_with fail
              go_ret
              exact ⟨rfl, HE.out⟩
            · have e6 : (spD Z).length = 0 := by unfold spD; rw [if_neg hg]; rfl
              have hg1 : ((splA Z).2 != 0) = true := by simpa using hg
              rw [e6]
              generalize (splA Z).2 = x at hg1 ⊢
              clear h6 b6 L6 HC6 hg
              go_wp2_with fail
              go_ret
              exact ⟨rfl, HW6.out⟩
        | some ad =>
          have HT : Hid (Src wr (some ad) nn c2 ((joinB L).take nn)) := HS2.out.take nn HNN.out
          have hc2 : (nn : Int) ≤ (c2 : Int) := by have := HTc.out; omega
          have HC5 := hide (split_any _ nn c2 _ wr HT.out HTc.out (by have := HJ.out.2; have := HNN.out; omega))
          go_wp2_with fail
          refine HC5.out.mono ?_
          intro r w5 h5
          obtain ⟨p5, q5, rfl, b5, -⟩ := h5.ls
          have HW5 := hide (HWr.out.trans (b5.mono HWr.out.size))
          have HB5 := hide (HBr2.out.below b5)
          obtain ⟨i1, i2⟩ := HTk.out
          by_cases hev : 0 ≤ ev
          · obtain ⟨j1, j2⟩ := i1 hev
            have e5 : spD ((joinB L).take nn) = (splA ((joinB L).take nn)).1 := by unfold spD; rw [if_pos j1]
            rw [j1, e5]
            rw [← e5] at j2
            rw [← e5]
            obtain ⟨pl, hpl⟩ : ∃ pl, (spD ((joinB L).take nn)).length = pl := ⟨_, rfl⟩
            rw [hpl] at j2 ⊢
            subst j2
            clear h5 b5 HC5 i1 i2 j1 e5 hpl HTk hev HEn HK
            have HC6 := hide (split_any b1 n c1 Z w5 (HB5.out.src HZo.out) HB5.out.cap (by have := HB.out.big; omega))
            go_wp2_with fail
            refine HC6.out.mono ?_
            intro r w6 h6
            obtain ⟨p6, q6, rfl, b6, L6⟩ := h6.ls
            have HW6 := hide (HW5.out.trans (b6.mono HW5.out.size))
            by_cases hg : (splA Z).2 = 0
            · have e6 : joinB (spD Z) = Z := by unfold spD; rw [if_pos hg]; exact join_splA Z HZo.out hg
              have HC7 := hide (join_any p6 _ q6 (spD Z) w6 L6 (by have := spD_len Z; have := HB.out.s.1; have := HB.out.big; omega) (by rw [e6, HB.out.s.1]; have := HB.out.big; omega))
              rw [hg]
              clear h6 b6 L6 HC6 hg
              go_wp2_with fail
              refine HC7.out.mono ?_
              rintro r w7 ⟨b7, l7, c7, rfl, B7, N7⟩
              rw [e6] at B7
              have hs7 := B7.bs.str
              have HE := hide (HW6.out.trans (N7.1.mono HW6.out.size))
              clear B7 N7 HC7 e6
              go_wp2_with fail
              go_ret
              exact ⟨rfl, HE.out⟩
            · have e6 : (spD Z).length = 0 := by unfold spD; rw [if_neg hg]; rfl
              have hg1 : ((splA Z).2 != 0) = true := by simpa using hg
              rw [e6]
              generalize (splA Z).2 = x at hg1 ⊢
              clear h6 b6 L6 HC6 hg
              go_wp2_with fail
              go_ret
              exact ⟨rfl, HW6.out⟩
          · have j1 := i2 (by omega)
            have e5 : (spD ((joinB L).take nn)).length = 0 := by unfold spD; rw [if_neg (by rw [j1]; decide)]; rfl
            rw [j1, e5]
            have hev1 : ev < 0 := by omega
            clear h5 b5 HC5 i1 i2 j1 e5 HTk hev HEn HK
            have HC6 := hide (split_any b1 n c1 Z w5 (HB5.out.src HZo.out) HB5.out.cap (by have := HB.out.big; omega))
            go_wp2_with fail
            refine HC6.out.mono ?_
            intro r w6 h6
            obtain ⟨p6, q6, rfl, b6, L6⟩ := h6.ls
            have HW6 := hide (HW5.out.trans (b6.mono HW5.out.size))
            by_cases hg : (splA Z).2 = 0
            · have e6 : joinB (spD Z) = Z := by unfold spD; rw [if_pos hg]; exact join_splA Z HZo.out hg
              have HC7 := hide (join_any p6 _ q6 (spD Z) w6 L6 (by have := spD_len Z; have := HB.out.s.1; have := HB.out.big; omega) (by rw [e6, HB.out.s.1]; have := HB.out.big; omega))
              rw [hg]
              clear h6 b6 L6 HC6 hg
              go_wp2_with fail
              refine HC7.out.mono ?_
              rintro r w7 ⟨b7, l7, c7, rfl, B7, N7⟩
              rw [e6] at B7
              have hs7 := B7.bs.str
              have HE := hide (HW6.out.trans (N7.1.mono HW6.out.size))
              clear B7 N7 HC7 e6
              go_wp2_with fail
              go_ret
              exact ⟨rfl, HE.out⟩
            · have e6 : (spD Z).length = 0 := by unfold spD; rw [if_neg hg]; rfl
              have hg1 : ((splA Z).2 != 0) = true := by simpa using hg
              rw [e6]
              generalize (splA Z).2 = x at hg1 ⊢
              clear h6 b6 L6 HC6 hg
              go_wp2_with fail
              go_ret
              exact ⟨rfl, HW6.out⟩
end Go.Proofs.Yteligjfkiifonaa
