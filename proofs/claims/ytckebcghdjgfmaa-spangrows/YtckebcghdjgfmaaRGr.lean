/- SpanGrows: the law's walk. -/
import Derived.Test.YtckebcghdjgfmaaRPt
namespace Go.Proofs.Ytckebcghdjgfmaa
open Go.RowKit
attribute [local go_sem ↓] ldR_eq stR_eq
attribute [local go_sem] zero_RC cells_RV RC_size fold_RC build_RC

/-- a row of numbers -/
structure NSrc (w : World) (ao : Option Addr) (m c : Nat) (Z : List Int) : Prop where
  len : Z.length = m
  nil : ao = none → m = 0
  cell : ∀ ad, ao = some ad → ∀ t, t < m → w.cell? (ad.add t) = some (.int .i64 (Z.getD t 0))
  big : m ≤ 9223372036854775807
theorem NSrc.below {w w' : World} {ao : Option Addr} {m c : Nat} {Z : List Int} (h : NSrc w ao m c Z) (hb : Below w.heap.size w w') : NSrc w' ao m c Z :=
  ⟨h.len, h.nil, fun ad ha t ht => by
    have := h.cell ad ha t ht
    rw [hb.cell (World.block_lt_of_cell? _ _ this)]; exact this, h.big⟩
theorem NSrc.at {w : World} {ao : Option Addr} {m c : Nat} {Z : List Int} (h : NSrc w ao m c Z) (k : Nat) (hk : k < m) : ∃ ad, ao = some ad ∧ w.cell? (ad.add k) = some (.int .i64 (Z.getD k 0)) := by
  cases ao with
  | none => have := h.nil rfl; omega
  | some ad => exact ⟨ad, rfl, h.cell ad rfl k hk⟩
theorem SizeOf.form {M : List Rn} {k : Int} (h : SizeOf M k) (hf : form 1 M) : k = sz M := by
  obtain ⟨R, hR, rfl⟩ := h
  rw [hR.unique (NormOf.self hf)]
set_option maxRecDepth 100000 in
set_option maxHeartbeats 1000000 in
theorem grows_any (ao : Option Addr) (n cap : Nat) (Z : List Int) (w : World) (hS : NSrc w ao n cap Z) :
    Calls Try.prog 3 #[.slice ao n cap] w fun e w' => e = .returned (.bool true) ∧ Below w.heap.size w w' := by
  have HS := hide hS
  have hn := hS.big
  have HL : Hid (Z.length = n) := hS.len
  clear hS
  go_enter Try.func3, Try.ntmps3
  go_wp2_with fail
  refine (put_any none 0 0 [] 3 _ (RSrc.empty _) (by omega)).mono ?_
  rintro e w1 h1
  rcases h1 with ⟨_, a1, n1, c1, R1, rfl, S1, b1, p1⟩ | ⟨hx, _⟩
  case inr => exact absurd ⟨by omega, by omega⟩ hx
  have HS1 := hide S1
  have HB1 := hide b1
  have HZ1 : Hid (form 1 R1 ∧ sz R1 = 1) := ⟨p1.1, by rw [put_new (X := []) trivial ⟨by omega, by omega⟩ p1 (mem_nil _)]; rfl⟩
  clear S1 b1 p1
  go_wp2_with fail
  refine (size_any a1 n1 c1 R1 _ HS1.out).mono ?_
  rintro e w2 ⟨k2, rfl, z2, b2⟩
  obtain rfl : k2 = 1 := (z2.form HZ1.out.1).trans HZ1.out.2
  have HB2 := hide (HB1.out.trans (b2.mono HB1.out.size))
  clear b2 z2 HB1 HS1 HZ1
  go_wp2_with fail
  go_loopw [3, 5, 6, 7, 8, 9, 10] (fun l s i _ _ _ _ wr => ∃ (k : Nat) (al : Option Addr) (nl cl : Nat) (X : List Rn) (sx : Int), k ≤ n ∧ l = .slice al nl cl ∧ s = .int .i64 sx ∧ i = .int .i64 k ∧ Hid (GI (Z.take k) X ∧ RSrc wr al nl cl X ∧ sx = sz X ∧ Below w.heap.size w wr)) (fun _ _ i _ _ _ _ _ => n - (intOf i).toNat)
  case atStart => exact ⟨0, none, 0, 0, [], 0, Nat.zero_le _, rfl, rfl, rfl, GI.start, RSrc.empty _, rfl, HB2.out⟩
  case round =>
    clear HB2
    obtain ⟨k, al, nl, cl, X, sx, hk, rfl, rfl, rfl, H⟩ := hrel
    rename World => w4
    have hnl := form_small (Int.le_refl _) H.out.1.1
    rw [H.out.2.1.len] at hnl
    have hsz := sz_top H.out.1.1
    rw [← H.out.2.2.1] at hsz
    obtain ⟨s1, s2⟩ := hsz
    by_cases hlt : k < n
    · obtain ⟨ad, rfl, c0⟩ := (HS.out.below H.out.2.2.2).at k hlt
      obtain ⟨x, Hx⟩ : ∃ x, Hid (Z.getD k 0 = x) := ⟨_, rfl⟩
      rw [Hx.out] at c0
      have hkl : k < Z.length := by rw [HL.out]; exact hlt
      have HT : Hid (Z.take (k + 1) = Z.take k ++ [x]) := by show _ = _; rw [List.take_succ_eq_append_getElem hkl, show Z[k] = x by rw [← Hx.out]; simp [List.getD, hkl]]
      clear hkl
      go_wp2_with fail
      refine (has_any al nl cl X x _ H.out.2.1).mono ?_
      rintro e w5 ⟨had, rfl, hh, b5⟩
      have HH := hide hh
      have HB5 := hide (H.out.2.2.2.trans (b5.mono H.out.2.2.2.size))
      have HX5 := hide (H.out.2.1.below b5)
      clear hh b5 c0
      go_wp2_with fail
      refine (put_any al nl cl X x _ HX5.out (by omega)).mono ?_
      rintro e w6 h6
      rcases h6 with ⟨hx, a6, n6, c6, R, rfl, S6, b6, p6⟩ | ⟨hx, rfl, b6⟩
      · have HX := hide hx
        have HS6 := hide S6
        have HP := hide p6
        have HB6 := hide (HB5.out.trans (b6.mono HB5.out.size))
        obtain ⟨x1, x2⟩ := hx
        clear S6 b6 p6
        go_wp2_with fail
        refine (has_any a6 n6 c6 R x _ HS6.out).mono ?_
        rintro e w7 ⟨b, rfl, hb, b7⟩
        obtain rfl : b = true := hb.2 ((HP.out.2 x).2 (Or.inr ((mem_only x x HX.out).2 rfl)))
        have HS7 := hide (HS6.out.below b7)
        have HB7 := hide (HB6.out.trans (b7.mono HB6.out.size))
        clear b7 hb
        cases had with
        | true =>
          have HE : Hid (sz R = sx) := (put_had H.out.1.1 HX.out HP.out (HH.out.1 (by simp))).trans H.out.2.2.1.symm
          go_wp2_with fail
          refine (size_any a6 n6 c6 R _ HS7.out).mono ?_
          rintro e w8 ⟨q, rfl, z8, b8⟩
          obtain rfl : q = sx := (z8.form HP.out.1).trans HE.out
          have HN : Hid (GI (Z.take (k + 1)) R ∧ RSrc w8 a6 n6 c6 R ∧ q = sz R ∧ Below w.heap.size w w8) := ⟨by rw [HT.out]; exact H.out.1.put HX.out HP.out, HS7.out.below b8, HE.out.symm, HB7.out.trans (b8.mono HB7.out.size)⟩
          clear b8 z8
          go_wp2_with fail
          go_roundw
          case rel => exact ⟨k + 1, a6, n6, c6, R, q, by omega, rfl, rfl, by go_num, HN⟩
          case measure => simp [intOf]; omega
        | false =>
          have HE : Hid (sz R = sx + 1) := by
            have hm : ¬ mem X x := fun h => by have := HH.out.2 h; simp at this
            have := put_new H.out.1.1 HX.out HP.out hm
            rw [← H.out.2.2.1] at this
            exact this
          have e1 : IntKind.i64.wrap (sx + 1) = sx + 1 := by rw [IntKind.wrap_i64]; omega
          go_wp2_with fail
          refine (size_any a6 n6 c6 R _ HS7.out).mono ?_
          rintro e w8 ⟨q, rfl, z8, b8⟩
          obtain rfl : q = sx + 1 := (z8.form HP.out.1).trans HE.out
          have HN : Hid (GI (Z.take (k + 1)) R ∧ RSrc w8 a6 n6 c6 R ∧ sx + 1 = sz R ∧ Below w.heap.size w w8) := ⟨by rw [HT.out]; exact H.out.1.put HX.out HP.out, HS7.out.below b8, HE.out.symm, HB7.out.trans (b8.mono HB7.out.size)⟩
          clear b8 z8
          go_wp2_with fail
          go_roundw
          case rel => exact ⟨k + 1, a6, n6, c6, R, sx + 1, by omega, rfl, by go_num, by go_num, HN⟩
          case measure => simp [intOf]; omega
      · have HN : Hid (GI (Z.take (k + 1)) X ∧ RSrc w6 al nl cl X ∧ sx = sz X ∧ Below w.heap.size w w6) := ⟨by rw [HT.out]; exact H.out.1.skip hx, HX5.out.below b6, H.out.2.2.1, HB5.out.trans (b6.mono HB5.out.size)⟩
        clear b6
        by_cases x1 : x < 1
        · clear hx
          go_wp2_with fail
          go_roundw
          case rel => exact ⟨k + 1, al, nl, cl, X, sx, by omega, rfl, rfl, by go_num, HN⟩
          case measure => simp [intOf]; omega
        · have x2 : 1000000000 < x := by omega
          clear hx
          go_wp2_with fail
          go_roundw
          case rel => exact ⟨k + 1, al, nl, cl, X, sx, by omega, rfl, rfl, by go_num, HN⟩
          case measure => simp [intOf]; omega
    · obtain rfl : k = n := by omega
      have HD : Hid (DI Z X ∧ RSrc w4 al nl cl X ∧ Below w.heap.size w w4) := ⟨⟨H.out.1.1, fun x hx => by
        have := ((H.out.1.2 x).1 hx).1
        exact List.mem_of_mem_take this⟩, H.out.2.1, H.out.2.2.2⟩
      clear H hnl s1 s2
      go_wp2_with fail
      go_loopw [3, 11, 12, 13, 14] (fun l i _ _ _ wr => ∃ (j : Nat) (al : Option Addr) (nl cl : Nat) (X : List Rn), j ≤ k ∧ l = .slice al nl cl ∧ i = .int .i64 j ∧ Hid (DI (Z.drop j) X ∧ RSrc wr al nl cl X ∧ Below w.heap.size w wr)) (fun _ i _ _ _ _ => k - (intOf i).toNat)
      case atStart => exact ⟨0, al, nl, cl, X, Nat.zero_le _, rfl, rfl, HD.out⟩
      case round =>
        clear HD
        obtain ⟨j, al, nl, cl, X, hj, rfl, rfl, H⟩ := hrel
        rename World => w5
        by_cases hlt : j < k
        · obtain ⟨ad, rfl, c0⟩ := (HS.out.below H.out.2.2).at j hlt
          obtain ⟨x, Hx⟩ : ∃ x, Hid (Z.getD j 0 = x) := ⟨_, rfl⟩
          rw [Hx.out] at c0
          have hkl : j < Z.length := by rw [HL.out]; exact hlt
          have HT : Hid (Z.drop j = x :: Z.drop (j + 1)) := by show _ = _; rw [List.drop_eq_getElem_cons hkl, show Z[j] = x by rw [← Hx.out]; simp [List.getD, hkl]]
          have HDI := hide H.out.1
          rw [HT.out] at HDI
          clear hkl
          by_cases x1 : x < 1
          · have HN : Hid (DI (Z.drop (j + 1)) X ∧ RSrc w5 al nl cl X ∧ Below w.heap.size w w5) := ⟨HDI.out.skip (by omega), H.out.2⟩
            go_wp2_with fail
            go_roundw
            case rel => exact ⟨j + 1, al, nl, cl, X, by omega, rfl, by go_num, HN⟩
            case measure => simp [intOf]; omega
          · by_cases x2 : 1000000000 < x
            · have HN : Hid (DI (Z.drop (j + 1)) X ∧ RSrc w5 al nl cl X ∧ Below w.heap.size w w5) := ⟨HDI.out.skip (by omega), H.out.2⟩
              go_wp2_with fail
              go_roundw
              case rel => exact ⟨j + 1, al, nl, cl, X, by omega, rfl, by go_num, HN⟩
              case measure => simp [intOf]; omega
            · have HX : Hid (1 ≤ x ∧ x ≤ 1000000000) := ⟨by omega, by omega⟩
              go_wp2_with fail
              refine (drop_any al nl cl X x _ H.out.2.1).mono ?_
              rintro e w6 h6
              rcases h6 with ⟨_, a6, n6, c6, R, rfl, S6, b6, p6⟩ | ⟨hx, _⟩
              case inr => exact absurd HX.out hx
              have HS6 := hide S6
              have HP := hide p6
              have HB6 := hide (H.out.2.2.trans (b6.mono H.out.2.2.size))
              clear S6 b6 p6 c0
              go_wp2_with fail
              refine (has_any a6 n6 c6 R x _ HS6.out).mono ?_
              rintro e w7 ⟨b, rfl, hb, b7⟩
              obtain rfl : b = false := by
                cases b with
                | false => rfl
                | true => exact absurd ((mem_only x x HX.out).2 rfl) ((HP.out.2 x).1 (hb.1 rfl)).2
              have HN : Hid (DI (Z.drop (j + 1)) R ∧ RSrc w7 a6 n6 c6 R ∧ Below w.heap.size w w7) := ⟨HDI.out.drop HX.out HP.out, HS6.out.below b7, HB6.out.trans (b7.mono HB6.out.size)⟩
              clear b7 hb
              go_wp2_with fail
              go_roundw
              case rel => exact ⟨j + 1, a6, n6, c6, R, by omega, rfl, by go_num, HN⟩
              case measure => simp [intOf]; omega
        · obtain rfl : j = k := by omega
          have hnl : nl = 0 := by
            have h0 := H.out.1
            rw [List.drop_eq_nil_of_le (by rw [HL.out]; exact Nat.le_refl _)] at h0
            have := H.out.2.1.len
            rw [h0.done] at this
            exact this.symm
          subst hnl
          have HB := hide H.out.2.2
          go_wp2_with fail
          go_ret
          exact ⟨rfl, HB.out⟩
end Go.Proofs.Ytckebcghdjgfmaa
