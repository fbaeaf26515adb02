/- SpanUnions: the law's walk. -/
import Derived.Test.YtmamnigobdgpjaaSUn
import Derived.Test.YtmamnigobdgpjaaREq
namespace Go.Proofs.Ytmamnigobdgpjaa
open Go.RowKit
attribute [local go_sem ↓] ldR_eq stR_eq
attribute [local go_sem] zero_RC cells_RV RC_size fold_RC build_RC'

def lit3 (b : Nat) : List Sl := [⟨some ⟨b, 0, none⟩, 1, 1, [⟨3, 3⟩]⟩, ⟨none, 0, 0, []⟩, ⟨some ⟨b + 1, 0, none⟩, 1, 1, [⟨1, 2⟩]⟩]
theorem lit3_union (b : Nat) : UnionsOf (lit3 b) [⟨1, 3⟩] := by
  refine ⟨⟨by decide, by decide, by decide, trivial⟩, fun n => ?_⟩
  rw [mem_one]
  constructor
  · intro h
    by_cases c : n = 3
    · exact ⟨⟨some ⟨b, 0, none⟩, 1, 1, [⟨3, 3⟩]⟩, by simp [lit3], (mem_one _ _).2 (by simp only at h ⊢; omega)⟩
    · exact ⟨⟨some ⟨b + 1, 0, none⟩, 1, 1, [⟨1, 2⟩]⟩, by simp [lit3], (mem_one _ _).2 (by simp only at h ⊢; omega)⟩
  · rintro ⟨s, hs, h⟩
    simp only [lit3, List.mem_cons, List.not_mem_nil, or_false] at hs
    rcases hs with rfl | rfl | rfl
    · have := (mem_one _ _).1 h; simp only at this ⊢; omega
    · exact absurd h (mem_nil n)
    · have := (mem_one _ _).1 h; simp only at this ⊢; omega
theorem UnionsOf.unique {X : List Sl} {R R' : List Rn} (h : UnionsOf X R) (h' : UnionsOf X R') : R = R' := form_unique (Int.le_refl _) h.1 h'.1 (fun n => (h.2 n).trans (h'.2 n).symm)
theorem lit3_src (w : World) (T : TypeId) : CSrc (((w.alloc (.cells (RC ⟨3, 3⟩) 26)).alloc (.cells (RC ⟨1, 2⟩) 26)).alloc (.cells #[.slice (some ⟨w.heap.size, 0, none⟩) 1 1, .slice none 0 0, .slice (some ⟨w.heap.size + 1, 0, none⟩) 1 1] T)) (some ⟨w.heap.size + 2, 0, none⟩) 3 (lit3 w.heap.size) ∧ Below w.heap.size w (((w.alloc (.cells (RC ⟨3, 3⟩) 26)).alloc (.cells (RC ⟨1, 2⟩) 26)).alloc (.cells #[.slice (some ⟨w.heap.size, 0, none⟩) 1 1, .slice none 0 0, .slice (some ⟨w.heap.size + 1, 0, none⟩) 1 1] T)) := by
  have b1 := below_new w (.cells (RC ⟨3, 3⟩) 26)
  have b2 := below_new (w.alloc (.cells (RC ⟨3, 3⟩) 26)) (.cells (RC ⟨1, 2⟩) 26)
  have S1 := (lit_rsrc w [⟨3, 3⟩] (RC ⟨3, 3⟩) rfl 26 1 rfl (by omega)).below b2
  have S2 := lit_rsrc (w.alloc (.cells (RC ⟨3, 3⟩) 26)) [⟨1, 2⟩] (RC ⟨1, 2⟩) rfl 26 1 rfl (by omega)
  rw [World.size_alloc] at S2
  have h := csrcL ((w.alloc (.cells (RC ⟨3, 3⟩) 26)).alloc (.cells (RC ⟨1, 2⟩) 26)) (lit3 w.heap.size) #[.slice (some ⟨w.heap.size, 0, none⟩) 1 1, .slice none 0 0, .slice (some ⟨w.heap.size + 1, 0, none⟩) 1 1] rfl T 3 rfl (fun s hs => by
    simp only [lit3, List.mem_cons, List.not_mem_nil, or_false] at hs
    rcases hs with rfl | rfl | rfl
    · exact S1
    · exact RSrc.empty _
    · exact S2) (by omega)
  simp only [World.size_alloc] at h
  exact ⟨h, b1.trans ((b2.trans ((below_new _ _).mono (by simp))).mono b1.size)⟩
theorem own_lit (w : World) : OwnR w.heap.size w.heap.size w (w.alloc (.cells #[] 26)) (some ⟨w.heap.size, 0, none⟩) 0 [] :=
  ⟨⟨by simp [rcs], .inr ⟨w.heap.size, 0, _, rfl, Nat.le_refl _, heap_alloc_new w _, Nat.le_refl _, by unfold maxLen; omega, by simp, by simp [rcs]⟩⟩, below_new w _, by simp, Nat.le_refl _⟩
theorem OwnR.under' {B0 B : Nat} {w w' : World} {ao : Option Addr} {cap : Nat} {acc : List Rn} (O : OwnR B0 B w w' ao cap acc) : ∀ ad, ao = some ad → B ≤ ad.block ∧ ad.block < w'.heap.size := fun ad h => by
  subst h
  exact O.own.lt ad.block (by simp [Value.ownBlock])
theorem row_zero {B0 B : Nat} {w w' : World} {ao : Option Addr} {cap n : Nat} {L : List Rn} (O : OwnR B0 B w w' ao cap ([] ++ L)) (hl : L.length = n) (hn : n ≤ 1048576) : RSrc w' ao n cap ([] ++ L) := by
  have h := (O.src (by rw [List.nil_append, hl]; omega)).1
  have e : ([] ++ L).length = n := by rw [List.nil_append, hl]
  rw [e] at h
  exact h
set_option maxRecDepth 100000 in
set_option maxHeartbeats 8000000 in
theorem unions_any (ao : Option Addr) (q cp : Nat) (X : List Sl) (w : World) (hC : CSrc w ao q X) (hq : q ≤ 1048576) (ht : tot X ≤ 1048576) :
    Calls Try.prog 3 #[.slice ao q cp] w fun e w' => e = .returned (.bool true) ∧ Below w.heap.size w w' := by
  have HC := hide hC
  have HL : Hid (X.length = q) := hC.len
  clear hC
  go_enter Try.func3, Try.ntmps3
  go_wp2_with fail
  obtain ⟨C0, b0⟩ := lit3_src w 23
  refine (unionN_any _ 3 3 (lit3 w.heap.size) _ C0 (by simp [lit3, tot])).mono ?_
  rintro e w1 ⟨a1, n1, c1, X1, rfl, S1, b1, p1⟩
  obtain rfl := UnionsOf.unique p1 (lit3_union _)
  obtain rfl : n1 = 1 := S1.len.symm
  obtain ⟨ad, rfl, _⟩ := S1.at 0 (by omega)
  obtain ⟨b, o, rfl⟩ := S1.spot (by omega)
  obtain ⟨q0, q1⟩ := S1.nums 0 (by omega)
  have k0 : w1.cell? ⟨b, o, none⟩ = some (.int .i64 1) := by simpa using q0
  have k1 : w1.cell? ⟨b, o + 1, none⟩ = some (.int .i64 3) := by simpa using q1
  have HB1 := hide (b0.trans (b1.mono b0.size))
  clear S1 b1 p1 q0 q1 C0 b0
  go_wp2_with fail
  refine (unionN_any none 0 0 [] _ ⟨rfl, fun _ => rfl, (fun ad h => by cases h), (fun s h => by cases h), by omega⟩ (by simp [tot])).mono ?_
  rintro e w2 ⟨a2, n2, c2, X2, rfl, S2, b2, p2⟩
  obtain rfl : n2 = 0 := by
    rw [← S2.len, form_empty (Int.le_refl _) p2.1 (fun n hn => by obtain ⟨s, h, _⟩ := (p2.2 n).1 hn; cases h)]; rfl
  have HB2 := hide (HB1.out.trans (b2.mono HB1.out.size))
  clear S2 b2 p2 k0 k1 HB1
  go_wp2_with fail
  refine (refUnionA_any ao q cp X _ (HC.out.below HB2.out) (by omega)).mono ?_
  rintro e w3 ⟨a3, n3, c3, X3, rfl, S3, b3, p3⟩
  have HX3 := hide S3
  have HP3 := hide p3
  have HB3 := hide (HB2.out.trans (b3.mono HB2.out.size))
  clear S3 b3 p3 HB2
  go_wp2_with fail
  go_loopw [5, 6] (fun v i wr => ∃ (k : Nat) (lo : Option Addr) (lc : Nat) (acc : List Sl), k ≤ q ∧ v = .slice lo k lc ∧ i = .int .i64 k ∧ Hid (acc.length = k ∧ acc.map (·.L) = (lsts X).take k ∧ OwnC w3 wr lo lc acc)) (fun _ i _ => q - (intOf i).toNat)
  case atStart => exact ⟨0, none, 0, [], Nat.zero_le _, rfl, rfl, rfl, rfl, OwnC.nil w3⟩
  case round =>
    obtain ⟨k, lo, lc, acc, hk, rfl, rfl, H⟩ := hrel
    rename World => w4
    have HB4 := hide (HB3.out.trans (H.out.2.2.below.mono HB3.out.size))
    by_cases hlt : k < q
    · obtain ⟨ad, s, rfl, hs, cs, sS⟩ := (HC.out.below HB4.out).at k hlt
      have HT : Hid ((lsts X).take (k + 1) = (lsts X).take k ++ [s.L]) := by
        show _ = _
        have hkl : k < (lsts X).length := by rw [lsts_len, HL.out]; exact hlt
        rw [List.take_succ_eq_append_getElem hkl]
        have := lsts_at hs
        simp only [List.getD, List.getElem?_eq_getElem hkl, Option.getD_some] at this
        rw [this]
      have hsn : s.n ≤ 1048576 := by
        have h1 := tot_take X (k + 1)
        rw [take_one hs, tot_append] at h1
        simp only [tot] at h1
        omega
      have HS := hide (sS.below (below_new w4 (.cells #[] 26)))
      have cs' : (w4.alloc (.cells #[] 26)).cell? (ad.add k) = some (.slice s.ao s.n s.cap) := by rw [(below_new w4 _).cell (World.block_lt_of_cell? _ _ cs)]; exact cs
      have HO := hide (own_lit w4)
      clear hs sS cs
      obtain ⟨sa, sn, sc, sL⟩ := s
      simp only at cs' hsn HS HT
      have HSL : Hid (sL.length = sn) := HS.out.len
      have hal : acc.length = k := H.out.1
      go_wp2_with (at_builtin; first | (refine HO.out.appendAll sa sn sc sL HS.out (by rw [List.length_nil]; omega) rfl (.tmp 45) (.tmp 49) rfl 0 rfl rfl rfl ?_; intro a5 c5 w5 O5; have HO5 := hide O5; clear O5; have HS5 := hide (row_zero HO5.out HSL.out hsn)) | (refine H.out.2.2.next HO5.out.below a5 sn c5 ([] ++ sL) HS5.out HO5.out.under' (by omega) rfl (.tmp 44) (.tmp 51) rfl k hal rfl rfl ?_; intro g6 c6 w6 O6; have HO6 := hide O6; clear O6))
      have HN : Hid ((acc ++ [(⟨a5, sn, c5, [] ++ sL⟩ : Sl)]).length = k + 1 ∧ (acc ++ [(⟨a5, sn, c5, [] ++ sL⟩ : Sl)]).map (·.L) = (lsts X).take (k + 1)) := ⟨by simp [hal], by rw [HT.out, List.map_append, H.out.2.1]; rfl⟩
      go_roundw
      case rel => exact ⟨k + 1, some ⟨g6, 0, none⟩, c6, _, by omega, rfl, by go_num, HN.out.1, HN.out.2, HO6.out⟩
      case measure => simp [intOf]; omega
    · obtain rfl : k = q := by omega
      have HX4 := hide (HX3.out.below H.out.2.2.below)
      have HM : Hid (acc.map (·.L) = lsts X) := by
        show _ = _
        rw [H.out.2.1, List.take_of_length_le (by rw [lsts_len, HL.out]; exact Nat.le_refl _)]
      have C4 := H.out.2.2.csrc (by rw [H.out.1]; omega)
      rw [H.out.1] at C4
      have HW4 := hide C4
      clear C4 H
      go_wp2_with fail
      refine (unionN_any ao k cp X _ (HC.out.below HB4.out) (by omega)).mono ?_
      rintro e w5 ⟨a5, n5, c5, X5, rfl, S5, b5, p5⟩
      have HE : Hid (X5 = X3) := form_unique (Int.le_refl _) p5.1 HP3.out.1 (fun n => (p5.2 n).trans (HP3.out.2 n).symm)
      have HX5 := hide S5
      have HX3' := hide (HX4.out.below b5)
      have HW5 := hide (HW4.out.below b5)
      have HB5 := hide (HB4.out.trans (b5.mono HB4.out.size))
      clear S5 b5 p5 HB4 HW4 HX4
      go_wp2_with fail
      refine (equal_any a5 a3 n5 c5 n3 c3 X5 X3 _ HX5.out HX3'.out).mono ?_
      rintro e w6 ⟨rfl, b6⟩
      rw [decide_eq_true HE.out]
      have HW6 := hide (HW5.out.below b6)
      have HB6 := hide (HB5.out.trans (b6.mono HB5.out.size))
      clear b6 HB5 HW5 HX5 HX3'
      go_wp2_with fail
      go_loopw [7] (fun i wr => ∃ (j : Nat), j ≤ k ∧ i = .int .i64 j ∧ Hid (Below w6.heap.size w6 wr)) (fun i _ => k - (intOf i).toNat)
      case atStart => exact ⟨0, Nat.zero_le _, rfl, Below.refl _ _⟩
      case round =>
        obtain ⟨j, hj, rfl, H⟩ := hrel
        rename World => w7
        have HB7 := hide (HB6.out.trans (H.out.mono HB6.out.size))
        by_cases hjl : j < k
        · obtain ⟨ad, s, rfl, hs, cs, sS⟩ := (HC.out.below HB7.out).at j hjl
          obtain ⟨bd, s', rfl, hs', cs', sS'⟩ := (HW6.out.below H.out).at j hjl
          have HLL : Hid (s.L = s'.L) := by
            show _ = _
            have e1 := lsts_at hs
            rw [← HM.out] at e1
            rw [← e1]
            simp [List.getD, hs']
          have HS := hide sS
          have HS' := hide sS'
          clear hs hs' sS sS'
          obtain ⟨sa, sn, sc, sL⟩ := s
          obtain ⟨ta, tn, tc, tL⟩ := s'
          simp only at cs cs' HLL HS HS'
          have k0 := cell_regrown cs
          have k1 := cell_regrown cs'
          have cD : ∀ d os, Calls Try.prog 6 #[.slice sa sn sc, .slice ta tn tc] (Sort.grow (redrawn w7 d) os) fun x w'' => x = .returned (.bool true) ∧ ∃ p : Regrown, w'' = Sort.grow (redrawn w7 p.d) p.os := fun d os => by
            have := equal_any sa ta sn sc tn tc sL tL (Sort.grow (redrawn w7 d) os) (HS.out.below (below_regrown w7 d os)) (HS'.out.below (below_regrown w7 d os))
            rw [decide_eq_true HLL.out] at this
            exact Calls.regrown_of this
          clear cs cs'
          go_wp2_with fail
          refine wp_region_quiet_below (by kernel_rfl) (by kernel_rfl) ?_
          repeat (with_reducible (refine wpQuiet_step ?_); intro K hK; go_simp; (try rw [if_neg (by unfold undef; simp)]); first | (with_reducible (refine hK _ ?_); clear hK K) | (apply Exists.intro; refine ⟨fun _ => ?_, hK _ ?_⟩; (go_at_call 6; exact cD _ _); clear hK K))
          with_reducible (refine wpQuiet_nil ?_)
          intro w8 hw'
          obtain ⟨⟨dq, osq⟩, hw''⟩ := hw'
          have b8 : Below w7.heap.size w7 w8 := by rw [hw'']; exact below_regrown w7 dq osq
          clear hw'' dq osq
          have HN := hide (H.out.trans (b8.mono H.out.size))
          clear b8 k0 k1
          go_wp2_with fail
          go_roundw
          case rel => exact ⟨j + 1, by omega, by go_num, HN⟩
          case measure => simp [intOf]; omega
        · go_wp2_with fail
          go_ret
          exact ⟨rfl, HB7.out⟩
end Go.Proofs.Ytmamnigobdgpjaa
