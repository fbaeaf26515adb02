/- WireBack: the law. -/
import Derived.Test.YtflinfmhmokfhaaUPs
import Derived.Test.YtflinfmhmokfhaaURw
namespace Go.Proofs.Ytflinfmhmokfhaa
open Go.RowKit
attribute [local go_sem ↓] ldG_eq stG_eq ldK_eq stK_eq ldQ_eq stQ_eq
attribute [local go_sem] GC_size KC_size QC_size
variable {w w' w2 w3 wr : World} {g : Nat} {so lo : Option Addr} {sn sc ln lc : Nat} {X : List Stp}

/-- a script handed in -/
structure SV (w : World) (so : Option Addr) (sn sc : Nat) (X : List Stp) : Prop where
  qs : QSrc w so sn sc X
  big : sn ≤ 1048576
  each : ∀ s ∈ X, s.n ≤ 9223372036854775807 ∧ s.s.size ≤ 1048576
def sA : Stp := ⟨0, 1, 300, false, ⟨#[]⟩⟩
def sB : Stp := ⟨0, 3, 0, false, ⟨#[65, 66]⟩⟩
def stepsOf (X : List Stp) : List Stp := X.filter okB ++ [sA, sB]
theorem ok_of {s : Stp} (h : okB s = true) (h1 : s.n ≤ 9223372036854775807) (h2 : s.s.size ≤ 1048576) : OkS s := by
  unfold okB at h
  simp only [Bool.and_eq_true, Bool.or_eq_true, decide_eq_true_eq] at h
  exact ⟨h.1, fun e => by rcases h.2 with x | x; exact absurd e x; exact x, h1, h2⟩
theorem SV.ok (h : SV w so sn sc X) : ∀ s ∈ stepsOf X, OkS s := by
  intro s hs
  unfold stepsOf at hs
  rcases List.mem_append.1 hs with hs | hs
  · have := List.mem_filter.1 hs
    exact ok_of this.2 (h.each s this.1).1 (h.each s this.1).2
  · simp only [List.mem_cons, List.not_mem_nil, or_false] at hs
    rcases hs with rfl | rfl
    · exact ⟨by decide, fun _ => by decide, by decide, by decide⟩
    · exact ⟨by decide, (fun h => by cases h), by decide, by decide⟩
theorem enc_len {s : Stp} (h : OkS s) : (encS s).length ≤ 1048585 := by
  obtain ⟨z, k, n, b, t⟩ := s
  have hk := h.kind
  have hl := h.len
  have hb := h.big
  simp only at hk hl hb
  unfold encS putB
  simp only
  rcases kinds4 hk with rfl | rfl | rfl | rfl
  · simp only [if_pos]
    split
    · simp
    · have := numB_nine (n := n.toNat) (by omega); omega
  · simp
  all_goals
    simp only [if_neg (show ¬ (3 : Int) = 1 by decide), if_neg (show ¬ (3 : Int) = 2 by decide), if_neg (show ¬ (4 : Int) = 1 by decide), if_neg (show ¬ (4 : Int) = 2 by decide), true_or, or_true, if_pos]
    have := numB_nine (n := t.size) (by omega)
    rw [List.length_append, strB_length]
    omega
theorem encL_take (P : List Stp) {k : Nat} (hk : k < P.length) {s : Stp} (hs : P.getD k q0 = s) : encL (P.take (k + 1)) = encL (P.take k) ++ encS s := by
  have e : P.take (k + 1) = P.take k ++ [s] := by
    rw [List.take_succ_eq_append_getElem hk, ← hs, List.getD_eq_getElem?_getD, List.getElem?_eq_getElem hk]
    rfl
  rw [e]
  unfold encL
  simp
theorem encL_len : ∀ (P : List Stp), (∀ s ∈ P, OkS s) → (encL P).length ≤ P.length * 1048585
  | [], _ => by simp [encL]
  | s :: P, h => by
    have h1 := enc_len (h s (List.mem_cons_self ..))
    have h2 := encL_len P (fun x hx => h x (List.mem_cons_of_mem _ hx))
    rw [encL_cons, List.length_append, List.length_cons]
    omega
theorem encL_five (X : List Stp) : 5 ≤ (encL (stepsOf X)).length := by
  unfold stepsOf encL
  rw [List.flatMap_append, List.length_append]
  have : ([sA, sB].flatMap encS).length = 5 := by decide +kernel
  omega
theorem encL_oct (P : List Stp) : ∀ t, 0 ≤ (encL P).getD t 0 ∧ (encL P).getD t 0 ≤ 255 := by
  have one : ∀ s : Stp, ∀ x ∈ encS s, (0 : Int) ≤ x ∧ x ≤ 255 := by
    intro s x hx
    have conv : ∀ L : List Int, (∀ t, 0 ≤ L.getD t 0 ∧ L.getD t 0 ≤ 255) → ∀ y ∈ L, (0 : Int) ≤ y ∧ y ≤ 255 := fun L hL y hy => by
      obtain ⟨i, hi, e⟩ := List.getElem_of_mem hy
      have := hL i
      rw [List.getD_eq_getElem?_getD, List.getElem?_eq_getElem hi, e] at this
      exact this
    unfold encS putB at hx
    split at hx
    · split at hx
      · cases hx
      · exact conv _ (numB_oct _) x hx
    · split at hx
      · simp only [List.mem_cons, List.not_mem_nil, or_false] at hx
        subst hx
        unfold flagB
        split <;> decide
      · split at hx
        · rcases List.mem_append.1 hx with h | h
          · exact conv _ (numB_oct _) x h
          · exact conv _ (strB_oct _) x h
        · cases hx
  intro t
  rw [List.getD_eq_getElem?_getD]
  cases hc : (encL P)[t]? with
  | none => simp
  | some x =>
    obtain ⟨s, _, hx⟩ := List.mem_flatMap.1 (List.mem_of_getElem? hc)
    exact one s x hx
theorem rdE_there {wide : Int} {P : List Stp} (h : ∀ s ∈ P, OkS s) (R : List Int) : rdE wide P (encL P ++ R) = endA R.length ∧ (rdS wide P (encL P ++ R)).2.1 = 0 ∧ (rdS wide P (encL P ++ R)).1 = P.map gotS := by
  have e := rdS_there wide P R h
  unfold rdE
  rw [e]
  exact ⟨by simp, rfl, rfl⟩
theorem rdE_short {wide : Int} {P : List Stp} (h : ∀ s ∈ P, OkS s) (i : Nat) (hi : i < (encL P).length) : rdE wide P ((encL P).take i) = 50 := by
  have e := rdS_short wide P i h hi
  unfold rdE
  rw [e]
  rfl
theorem u8_wrap_bd (x : Int) : 0 ≤ IntKind.u8.wrap x ∧ IntKind.u8.wrap x ≤ 255 := by
  rw [IntKind.wrap_u8]
  omega
theorem modn (cut : Int) (J : Nat) (h : 0 < J) (hJ : J < 4000000000000) : ∃ nn : Nat, wrap64 ((IntKind.u64.wrap cut).tmod (J : Int)) = (nn : Int) ∧ nn < J := by
  rw [IntKind.wrap_u64]
  have h0 : 0 ≤ cut % 18446744073709551616 := Int.emod_nonneg _ (by decide)
  rw [Int.tmod_eq_emod_of_nonneg h0]
  have h1 := Int.emod_nonneg (cut % 18446744073709551616) (show (J : Int) ≠ 0 by omega)
  have h2 := Int.emod_lt_of_pos (cut % 18446744073709551616) (show (0 : Int) < J by omega)
  refine ⟨((cut % 18446744073709551616) % (J : Int)).toNat, ?_, by omega⟩
  generalize (cut % 18446744073709551616) % (J : Int) = x at h1 h2
  rw [w64 (by omega) (by omega)]
  omega
set_option maxRecDepth 100000 in
set_option maxHeartbeats 4000000 in
theorem wireBack_any (so : Option Addr) (sn sc : Nat) (X : List Stp) (wide cut : Int) (w : World) (S : SV w so sn sc X) :
    Calls Try.prog 4 #[.slice so sn sc, .int .i64 wide, .int .i64 cut] w fun r w' => r = .returned (.bool true) ∧ Below w.heap.size w w' := by
  have HS := hide S
  have HOk := hide S.ok
  have HC := hide (puts_any so sn sc X w S.qs S.big)
  clear S
  go_enter Try.func4, Try.ntmps4
  go_wp2_with fail
  refine HC.out.mono ?_
  rintro r w1 ⟨lo, ln, lc, rfl, hP⟩
  have HP := hide hP
  have HL : Hid (ln ≤ 1048576) := by
    show _ ≤ _
    have h1 := hP.qr.len
    have h2 := List.length_filter_le okB X
    have h3 := HS.out.qs.len
    have h4 := HS.out.big
    omega
  have HL2 : Hid (ln + 2 ≤ 2932031007302) := by show _ ≤ _; have := HL.out; omega
  clear HC hP
  go_wp2_with (at_builtin; refine HP.out.qr.app (L := [sA, sB]) (m := 2) rfl (by rfl) HL2.out rfl (.tmp 19) (.tmp 22) rfl rfl rfl ?_; intro bo c2 w2 R2 A2; have HI2 := hide (HP.out.app R2 A2); clear R2 A2)
  refine (new_any w2).mono ?_
  rintro r w3 ⟨rfl, rfl⟩
  obtain ⟨P, hPP⟩ : ∃ P, X.filter okB ++ [sA, sB] = P := ⟨_, rfl⟩
  have HX : Hid (P = stepsOf X) := hPP.symm
  rw [hPP] at HI2
  obtain ⟨n2, hn2⟩ : ∃ n2, ln + 2 = n2 := ⟨_, rfl⟩
  rw [hn2] at HI2 ⊢
  have HSP : Hid (SP w2 bo n2 c2 P) := ⟨HI2.out.qr.src, (by rw [HX.out]; exact HOk.out), by have := HL.out; omega⟩
  have HPn : Hid (P.length = n2) := HI2.out.qr.len
  have HN2 : Hid (n2 ≤ 1048578) := by show _ ≤ _; have := HL.out; omega
  have HKn := hide (wk_new w2)
  have HBel := hide HI2.out.bel
  obtain ⟨gw, hgw⟩ : ∃ gw, w2.heap.size = gw := ⟨_, rfl⟩
  rw [hgw] at HKn ⊢
  clear hPP hn2 HP HL HL2 HI2 hgw
  have HEnc : Hid ((encL P).length ≤ 1100000000000 ∧ 5 ≤ (encL P).length ∧ (∀ t, 0 ≤ (encL P).getD t 0 ∧ (encL P).getD t 0 ≤ 255)) := by
    refine ⟨?_, by rw [HX.out]; exact encL_five X, encL_oct P⟩
    have h1 := encL_len P HSP.out.ok
    have h2 := HPn.out
    have h3 := HN2.out
    omega
  go_wp2_with fail
  go_loopw [9] (fun i wr => ∃ k : Nat, k ≤ n2 ∧ i = .int .i64 k ∧ Hid (∃ ao m c, Wk w2 wr gw ao m c (encL (P.take k)))) (fun i _ => n2 - (intOf i).toNat)
  case atStart => exact ⟨0, Nat.zero_le _, rfl, _, _, _, HKn.out⟩
  case round =>
    clear HKn
    obtain ⟨k, hk, rfl, HI⟩ := hrel
    obtain ⟨ao, m, c, hW⟩ := HI.out
    have HW := hide hW
    have hml := hW.len
    clear HI hW
    by_cases hlt : k < n2
    · have HLT := hide hlt
      have HK1 : Hid (wrap64 ((k : Int) + 1) = ((k + 1 : Nat) : Int)) := by show _ = _; have := HN2.out; rw [w64 (by omega) (by omega)]; rfl
      obtain ⟨ad, rfl, A⟩ := (HSP.out.qs.below HW.out.bel).at k hlt
      obtain ⟨s, hs⟩ : ∃ s, P.getD k q0 = s := ⟨_, rfl⟩
      rw [hs] at A
      have hld := run_laQ A
      have hok : OkS s := HSP.out.ok s (by rw [← hs, List.getD_eq_getElem?_getD, List.getElem?_eq_getElem (by rw [HPn.out]; exact hlt)]; exact List.getElem_mem _)
      have HE := hide (encL_take P (by rw [HPn.out]; exact hlt) hs)
      have hm : m + s.s.size ≤ 140737488355000 := by
        have h1 := encL_len (P.take k) (fun x hx => HSP.out.ok x (List.mem_of_mem_take hx))
        rw [hml, List.length_take] at h1
        have h2 := hok.len
        have h3 := HN2.out
        have h4 : min k P.length * 1048585 ≤ k * 1048585 := Nat.mul_le_mul_right _ (Nat.min_le_left _ _)
        omega
      obtain ⟨z, kd, x, b, t⟩ := s
      have HPu := hide (put_any z kd x b t HW.out hok.big hm (fun h => by have h1 : 0 ≤ x := hok.num h.1; have h2 := h.2; omega))
      clear A hs hok hm hml
      go_wp2_with fail
      refine HPu.out.mono ?_
      rintro r w4 ⟨rfl, bo4, m4, c4, hW4⟩
      have HI4 : Hid (∃ ao m c, Wk w2 w4 gw ao m c (encL (P.take (k + 1)))) := ⟨bo4, m4, c4, by rw [HE.out]; exact hW4⟩
      clear hW4 HPu HW hld
      go_wp2_with fail
      go_roundw
      case rel => exact ⟨k + 1, HLT.out, (by rw [HK1.out]), HI4⟩
      case measure => rw [HK1.out]; have := HLT.out; simp [intOf]; omega
    · obtain rfl : k = n2 := by omega
      rw [List.take_of_length_le (by rw [HPn.out]; exact Nat.le_refl _)] at HW hml
      have hm5 : 5 ≤ m := by have := HEnc.out; omega
      have HM5 : Hid (5 ≤ m ∧ m ≤ 1100000000000 ∧ (encL P).length = m) := ⟨hm5, by have := HEnc.out; omega, hml⟩
      have hm5i : ¬ (m : Int) < 5 := by omega
      have HD := hide (done_ok ao m c (encL P) wr HW.out.w (by have := HEnc.out; omega))
      have HBr := hide (HBel.out.trans (HW.out.bel.mono HBel.out.size))
      have HSr := hide (HSP.out.below HW.out.bel)
      clear HW HSP hml hlt
      go_wp2_with fail
      refine HD.out.mono ?_
      rintro r w5 ⟨b5, c5, rfl, B5, N5⟩
      have HB5 := hide B5
      have HBl5 := hide (HBr.out.trans (N5.1.mono HBr.out.size))
      have HS5 := hide (HSr.out.below N5.1)
      have HSrc5 : Hid (Src w5 b5 m c5 (encL P)) := ⟨B5.bs.len, B5.bs.nil, B5.bs.cell, HEnc.out.2.2⟩
      have hR := readS_any b5 m c5 (encL P) bo k c2 P wide w5 HSrc5.out B5.cap (by have := HM5.out; omega) HS5.out
      clear B5 N5 HD HBr HSr
      have HR1 := hide hR
      clear hR
      go_wp2_with fail
      refine HR1.out.mono ?_
      rintro r w6 ⟨lo6, ln6, lc6, rfl, b6, hG6⟩
      have e6 := rdE_there (wide := wide) HS5.out.ok []
      rw [List.append_nil] at e6
      rw [e6.1]
      have G6 := hG6 e6.2.1
      rw [e6.2.2] at G6
      have hl6 := G6.len
      rw [List.length_map, HPn.out] at hl6
      subst hl6
      have HG6 := hide G6
      have HB6 := hide (HB5.out.below b6)
      have HBl6 := hide (HBl5.out.trans (b6.mono HBl5.out.size))
      have HS6 := hide (HS5.out.below b6)
      have hend : endA ([] : List Int).length = 0 := rfl
      rw [hend]
      clear hG6 e6 G6 b6 HR1 HB5 HBl5 HS5 HSrc5 hend
      go_wp2_with fail
      go_loopw [14] (fun i wr => ∃ j : Nat, j ≤ k ∧ i = .int .i64 j ∧ Hid (Below w6.heap.size w6 wr)) (fun i _ => k - (intOf i).toNat)
      case atStart => exact ⟨0, Nat.zero_le _, rfl, Below.refl _ _⟩
      case round =>
        obtain ⟨j, hj, rfl, HBj⟩ := hrel
        by_cases hjl : j < k
        · have HLT := hide hjl
          have HK1 : Hid (wrap64 ((j : Int) + 1) = ((j + 1 : Nat) : Int)) := by show _ = _; have := HN2.out; rw [w64 (by omega) (by omega)]; rfl
          obtain ⟨ad1, rfl, A1⟩ := (HG6.out.below HBj.out).src.at j hjl
          obtain ⟨ad2, rfl, A2⟩ := (HS6.out.qs.below HBj.out).at j hjl
          obtain ⟨s, hs⟩ : ∃ s, P.getD j q0 = s := ⟨_, rfl⟩
          have hg : (P.map gotS).getD j g0 = gotS s := by
            rw [List.getD_eq_getElem?_getD, List.getElem?_map, ← hs, List.getD_eq_getElem?_getD, List.getElem?_eq_getElem (by rw [HPn.out]; exact hjl)]
            rfl
          rw [hg] at A1
          rw [hs] at A2
          have hok : OkS s := HS6.out.ok s (by rw [← hs, List.getD_eq_getElem?_getD, List.getElem?_eq_getElem (by rw [HPn.out]; exact hjl)]; exact List.getElem_mem _)
          have HA1 := hide A1
          have HA2 := hide A2
          have HSd := hide (said_any s hok wr.drew)
          have hji : (j : Int) < (k : Int) := by omega
          clear A1 A2 hs hg hok
          go_wp2_with fail
          refine wp_region_held_drew (S := fun W => GAt W (ad1.add (j * 3)) (gotS s) ∧ QAt W (ad2.add (j * 5)) s) (by kernel_rfl) (⟨HA1.out.on (below_drew1 wr), HA2.out.on (below_drew1 wr)⟩) (fun hHeld => ?_)
          refine wpAnyH_take (i := 0) (oi := { dst := some 73, op := Op.move (Operand.tmp 12), type := 24, pos := "outright.go:81", after := #[], guard := none }) (v := ?_) rfl (by kernel_rfl) (by kernel_rfl) (by kernel_rfl) (fun _ _ _ h => h) (Or.inl ⟨by rfl, ?_⟩) (by assumption) ?_
          rotate_left
          · (intro w hSw; (try dsimp only at hSw); go_simp); first | done | with_reducible rfl
          simp only [Act.put, List.setIfInBounds_toArray, List.set_cons_zero, List.set_cons_succ]
          refine wpAnyH_take (i := 1) (oi := { dst := some 74, op := Op.move (Operand.tmp 14), type := 3, pos := "outright.go:81", after := #[], guard := none }) (v := ?_) rfl (by kernel_rfl) (by kernel_rfl) (by kernel_rfl) (fun _ _ _ h => h) (Or.inl ⟨by rfl, ?_⟩) (by assumption) ?_
          rotate_left
          · (intro w hSw; (try dsimp only at hSw); go_simp); first | done | with_reducible rfl
          simp only [Act.put, List.setIfInBounds_toArray, List.set_cons_zero, List.set_cons_succ]
          refine wpAnyH_take (i := 2) (oi := { dst := some 75, op := Op.indexAddr 24 (Operand.tmp 73) (Operand.tmp 74), type := 0, pos := "outright.go:81", after := #[{ on := 0, ground := Ground.data }, { on := 1, ground := Ground.data }], guard := none }) (v := ?_) rfl (by kernel_rfl) (by kernel_rfl) (by kernel_rfl) (fun _ _ _ h => h) (Or.inl ⟨by rfl, ?_⟩) (by assumption) ?_
          rotate_left
          · (intro w hSw; (try dsimp only at hSw); go_simp); first | done | with_reducible rfl
          simp only [Act.put, List.setIfInBounds_toArray, List.set_cons_zero, List.set_cons_succ]
          refine wpAnyH_take (i := 3) (oi := { dst := some 76, op := Op.load 29 (Operand.tmp 75), type := 29, pos := "outright.go:81", after := #[{ on := 2, ground := Ground.data }], guard := none }) (v := ?_) rfl (by kernel_rfl) (by kernel_rfl) (by kernel_rfl) (fun _ _ _ h => h) (Or.inl ⟨by rfl, ?_⟩) (by assumption) ?_
          rotate_left
          · (intro w hSw; (try dsimp only at hSw); have h3 := run_laG hSw.1; go_simp); first | done | with_reducible rfl
          simp only [Act.put, List.setIfInBounds_toArray, List.set_cons_zero, List.set_cons_succ]
          refine wpAnyH_take (i := 4) (oi := { dst := some 77, op := Op.move (Operand.tmp 7), type := 39, pos := "outright.go:81", after := #[], guard := none }) (v := ?_) rfl (by kernel_rfl) (by kernel_rfl) (by kernel_rfl) (fun _ _ _ h => h) (Or.inl ⟨by rfl, ?_⟩) (by assumption) ?_
          rotate_left
          · (intro w hSw; (try dsimp only at hSw); go_simp); first | done | with_reducible rfl
          simp only [Act.put, List.setIfInBounds_toArray, List.set_cons_zero, List.set_cons_succ]
          refine wpAnyH_take (i := 5) (oi := { dst := some 78, op := Op.move (Operand.tmp 14), type := 3, pos := "outright.go:81", after := #[], guard := none }) (v := ?_) rfl (by kernel_rfl) (by kernel_rfl) (by kernel_rfl) (fun _ _ _ h => h) (Or.inl ⟨by rfl, ?_⟩) (by assumption) ?_
          rotate_left
          · (intro w hSw; (try dsimp only at hSw); go_simp); first | done | with_reducible rfl
          simp only [Act.put, List.setIfInBounds_toArray, List.set_cons_zero, List.set_cons_succ]
          refine wpAnyH_take (i := 6) (oi := { dst := some 79, op := Op.indexAddr 39 (Operand.tmp 77) (Operand.tmp 78), type := 0, pos := "outright.go:81", after := #[{ on := 4, ground := Ground.data }, { on := 5, ground := Ground.data }], guard := none }) (v := ?_) rfl (by kernel_rfl) (by kernel_rfl) (by kernel_rfl) (fun _ _ _ h => h) (Or.inl ⟨by rfl, ?_⟩) (by assumption) ?_
          rotate_left
          · (intro w hSw; (try dsimp only at hSw); go_simp); first | done | with_reducible rfl
          simp only [Act.put, List.setIfInBounds_toArray, List.set_cons_zero, List.set_cons_succ]
          refine wpAnyH_take (i := 7) (oi := { dst := some 80, op := Op.load 42 (Operand.tmp 79), type := 42, pos := "outright.go:81", after := #[{ on := 6, ground := Ground.data }], guard := none }) (v := ?_) rfl (by kernel_rfl) (by kernel_rfl) (by kernel_rfl) (fun _ _ _ h => h) (Or.inl ⟨by rfl, ?_⟩) (by assumption) ?_
          rotate_left
          · (intro w hSw; (try dsimp only at hSw); have h3 := run_laQ hSw.2; go_simp); first | done | with_reducible rfl
          simp only [Act.put, List.setIfInBounds_toArray, List.set_cons_zero, List.set_cons_succ]
          refine wpAnyH_ready (rs := [8]) (by kernel_rfl) (by simp) ?_
          refine AllReadyH.cons rfl (fun K hK => ?_) ?_
          rotate_left
          · exact AllReadyH.nil
          go_simp
          go_wp2_with fail
          refine HSd.out.mono ?_
          rintro r wx ⟨rfl, bx⟩
          have HBx := hide (HBj.out.trans (((below_drew1 wr).trans (bx.mono (below_drew1 wr).size)).mono HBj.out.size))
          refine hK.out _ _ ⟨(HA1.out.on (below_drew1 wr)).on bx, (HA2.out.on (below_drew1 wr)).on bx⟩ (fun hHeld => ?_)
          clear hK K bx
          refine wpAnyH_take (i := 9) (oi := { dst := some 82, op := Op.unOp UnOp.not 4 (Operand.tmp 81), type := 4, pos := "outright.go:81", after := #[{ on := 8, ground := Ground.data }], guard := none }) (v := ?_) rfl (by kernel_rfl) (by kernel_rfl) (by kernel_rfl) (fun _ _ _ h => h) (Or.inl ⟨by rfl, ?_⟩) (by assumption) ?_
          rotate_left
          · (intro w hSw; (try dsimp only at hSw); go_simp); first | done | with_reducible rfl
          simp only [Act.put, List.setIfInBounds_toArray, List.set_cons_zero, List.set_cons_succ]
          refine wpAnyH_done (by kernel_rfl) ?_ _
          clear hHeld
          go_wp2_with fail
          go_roundw
          case rel => exact ⟨j + 1, HLT.out, (by rw [HK1.out]), HBx⟩
          case measure => rw [HK1.out]; have := HLT.out; simp [intOf]; omega
        · have HBr := hide (HB6.out.below HBj.out)
          have HBlr := hide (HBl6.out.trans (HBj.out.mono HBl6.out.size))
          have HSr := hide (HS6.out.below HBj.out)
          have HLit := hide (BR.lit wr)
          have HBs := hide (HBr.out.bs.below (below_new wr (.cells #[] 5)))
          have HN0 : Hid (0 + m ≤ 140737488355328) := by show _ ≤ _; have := HM5.out; omega
          have HN1 : Hid (m + 1 ≤ 140737488355328) := by show _ ≤ _; have := HM5.out; omega
          obtain ⟨xc, hxc⟩ : ∃ xc, IntKind.u8.wrap cut = xc := ⟨_, rfl⟩
          have hxb : 0 ≤ xc ∧ xc ≤ 255 := by rw [← hxc]; exact u8_wrap_bd cut
          have HXB := hide hxb
          have hji : ¬ (j : Int) < (k : Int) := by omega
          clear HB6 HBl6 HS6 HG6 HBj hjl hj hxb
          go_wp2_with (at_builtin; first | (refine HBa.out.app1 xc HN1.out rfl (.tmp 85) (.tmp 88) rfl rfl rfl ?_; intro b8 c8 w8 B8 A8; have HBb := hide B8; have HAb := hide (HAa.out.trans A8); clear B8 A8) | (refine HLit.out.appB HBs.out HN0.out rfl (.tmp 83) (.tmp 84) rfl rfl rfl ?_; intro b7 c7 w7 B7 A7; rw [Nat.zero_add] at B7 ⊢; rw [List.nil_append] at B7; have HBa := hide B7; have HAa := hide A7; clear B7 A7))
          have N8 := HAb.out.fresh
          have HBl8 := hide (HBlr.out.trans (N8.1.mono HBlr.out.size))
          have HS8 := hide (HSr.out.below N8.1)
          have HB8 := hide (HBr.out.below N8.1)
          have HSrc8 : Hid (Src w8 b8 (m + 1) c8 (encL P ++ [xc])) := ⟨HBb.out.bs.len, HBb.out.bs.nil, HBb.out.bs.cell, fun t => by
            by_cases ht : t < (encL P).length
            · rw [List.getD_eq_getElem?_getD, List.getElem?_append_left ht, ← List.getD_eq_getElem?_getD]; exact HEnc.out.2.2 t
            · rw [List.getD_eq_getElem?_getD, List.getElem?_append_right (by omega)]
              rcases Nat.eq_zero_or_pos (t - (encL P).length) with e | e
              · rw [e]; exact HXB.out
              · rw [List.getElem?_eq_none (by simp; omega)]; simp⟩
          have HR8 := hide (readS_any b8 (m + 1) c8 _ bo k c2 P wide w8 HSrc8.out HBb.out.cap (by have := HM5.out; omega) HS8.out)
          clear HBr HBlr HSr HLit HBs HN0 HN1 HBa HAa HBb HAb N8 HSrc8
          refine HR8.out.mono ?_
          rintro r w9 ⟨lo9, ln9, lc9, rfl, b9, -⟩
          rw [(rdE_there (wide := wide) HS8.out.ok [xc]).1, show endA [xc].length = 52 from rfl]
          have HBl9 := hide (HBl8.out.trans (b9.mono HBl8.out.size))
          have HS9 := hide (HS8.out.below b9)
          have HB9 := hide (HB8.out.below b9)
          clear HR8 b9 HBl8 HS8 HB8
          obtain ⟨nn, hnn, hnl⟩ := modn cut m (by have := HM5.out; omega) (by have := HM5.out; omega)
          have hu : ((m : Int) % 18446744073709551616) = m := by have := HM5.out; omega
          have hmz : ¬ m = 0 := by have := HM5.out; omega
          have HNL := hide hnl
          have HSrc9 : Hid (Src w9 b5 m c5 (encL P)) := ⟨HB9.out.bs.len, HB9.out.bs.nil, HB9.out.bs.cell, HEnc.out.2.2⟩
          obtain ⟨ad5, rfl⟩ : ∃ ad5, b5 = some ad5 := by
            cases b5 with
            | none => have := (HSrc9.out.2.1 rfl).1; exact absurd this hmz
            | some ad5 => exact ⟨ad5, rfl⟩
          have hnc : nn ≤ c5 := by have := HB9.out.cap; omega
          have HR9 := hide (readS_any (some ad5) nn c5 _ bo k c2 P wide w9 (HSrc9.out.take nn (by omega)) hnc (by have := HM5.out; omega) HS9.out)
          clear hnl
          go_wp2_with fail
          refine HR9.out.mono ?_
          rintro r wA ⟨loA, lnA, lcA, rfl, bA, -⟩
          rw [rdE_short (wide := wide) HS9.out.ok nn (by rw [HM5.out.2.2]; exact HNL.out)]
          have HBlA := hide (HBl9.out.trans (bA.mono HBl9.out.size))
          have HSA := hide (HS9.out.below bA)
          have HSrcA := hide (HSrc9.out.below bA)
          have HcA : Hid (m ≤ c5) := HB9.out.cap
          clear HR9 bA HBl9 HS9 HB9 HSrc9 hnn hu hmz hnc hji hxc
          go_wp2_with fail
          go_loopw [13, 16] (fun ev i wr => ∃ (q : Nat), q ≤ m ∧ q ≤ 40 ∧ ev = .int .i64 50 ∧ i = .int .i64 q ∧ Hid (Below wA.heap.size wA wr)) (fun _ i _ => 40 - (intOf i).toNat)
          case atStart => exact ⟨0, Nat.zero_le _, by decide, rfl, rfl, Below.refl _ _⟩
          case round =>
            obtain ⟨q, hq, hq4, rfl, rfl, HBq⟩ := hrel
            by_cases hqm : q < m
            · have hqi : (q : Int) < (m : Int) := by omega
              by_cases hqk : q < 40
              · have hqj : (q : Int) < 40 := by omega
                have HQ := hide (And.intro hqm hqk)
                have HK1 : Hid (wrap64 ((q : Int) + 1) = ((q + 1 : Nat) : Int)) := by show _ = _; rw [w64 (by omega) (by omega)]; rfl
                have hqc : q ≤ c5 := by have := HcA.out; omega
                have HRq := hide (readS_any (some ad5) q c5 _ bo k c2 P wide wr ((HSrcA.out.below HBq.out).take q (by omega)) hqc (by have := HM5.out; omega) (HSA.out.below HBq.out))
                clear hq hq4 hqm hqk
                go_wp2_with fail
                refine HRq.out.mono ?_
                rintro r wB ⟨loB, lnB, lcB, rfl, bB, -⟩
                rw [rdE_short (wide := wide) HSA.out.ok q (by rw [HM5.out.2.2]; exact HQ.out.1)]
                have HBB := hide (HBq.out.trans (bB.mono HBq.out.size))
                clear HRq bB hqc
                go_wp2_with fail
                go_roundw
                case rel => exact ⟨q + 1, HQ.out.1, HQ.out.2, rfl, (by first | rw [HK1.out] | rfl), HBB⟩
                case measure => (try rw [HK1.out]); have := HQ.out.2; simp [intOf]; omega
              · have hqj : ¬ (q : Int) < 40 := by omega
                have HE := hide (HBlA.out.trans (HBq.out.mono HBlA.out.size))
                clear hq hq4 hqm hqk
                go_wp2_with fail
                go_ret
                exact ⟨rfl, HE.out⟩
            · have hqi : ¬ (q : Int) < (m : Int) := by omega
              have HE := hide (HBlA.out.trans (HBq.out.mono HBlA.out.size))
              clear hq hq4 hqm
              go_wp2_with fail
              go_ret
              exact ⟨rfl, HE.out⟩
end Go.Proofs.Ytflinfmhmokfhaa
