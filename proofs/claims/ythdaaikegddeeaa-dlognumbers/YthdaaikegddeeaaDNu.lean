/- DlogNumbers: the law's walk. -/
import Derived.Test.YthdaaikegddeeaaDOp
import Derived.Deep.CutRange
namespace Go.Proofs.Ythdaaikegddeeaa
open Go.RowKit
attribute [local go_sem ↓] ldO_eq stO_eq
attribute [local go_sem] zero_DC cells_DV DC_size
variable {B : Nat} {w w' : World} {g : Nat} {m nx : Int} {Z : List Int} {ao : Option Addr} {cap : Nat}

theorem pushed_len (m nx : Int) (Z : List Int) (t : Int) (h : 0 ≤ m) : ((pushed m nx Z t).length : Int) = min ((Z.length : Int) + 1) m := by
  have := cutN_le (nx + 1) (Z ++ [t]) (nx + 1 - m)
  unfold pushed
  rw [List.length_drop]
  unfold btw at this
  simp only [List.length_append, List.length_cons, List.length_nil] at this ⊢
  omega
theorem first_k (w : World) (L : Lg B w g m nx Z ao cap) (D : Bd m nx Z) {F : Int} (hF : nx - Z.length = F) : Calls Try.prog 7 #[ptr g] w fun e w' => e = .returned (.int .i64 F) ∧ Lg B w' g m nx Z ao cap ∧ Below w.heap.size w w' := by
  subst hF
  refine (first_any w L D).mono ?_
  rintro e w' ⟨rfl, n, rfl⟩
  exact ⟨rfl, L.drewN n, below_drewN w n⟩
theorem meas {n k : Nat} (h : k < n) : n - (intOf (.int .i64 ((k + 1 : Nat) : Int))).toNat < n - (intOf (.int .i64 (k : Int))).toNat := by simp [intOf]; omega
/-- a case's cells -/
def KC (a b c d : Int) (so : Option Addr) (n sc : Nat) : Array Value := #[.int .i64 a, .int .i64 b, .int .i64 c, .int .i64 d, .slice so n sc]
set_option maxRecDepth 100000 in
set_option maxHeartbeats 4000000 in
theorem numbers_any (a b c d : Int) (so : Option Addr) (n sc : Nat) (S : List Dp) (w : World) (hS : DSrc w so n sc S) :
    Calls Try.prog 3 #[.agg #[.int .i64 a, .int .i64 b, .int .i64 c, .int .i64 d, .slice so n sc]] w fun e w' => e = .returned (.bool true) ∧ Below w.heap.size w w' := by
  obtain ⟨w1, hw1⟩ : ∃ w1, w.alloc (.cells #[.int .i64 a, .int .i64 b, .int .i64 c, .int .i64 d, .slice so n sc] 24) = w1 := ⟨_, rfl⟩
  have HX : Hid (w1.heap[w.heap.size]? = some (.cells #[.int .i64 a, .int .i64 b, .int .i64 c, .int .i64 d, .slice so n sc] 24 (0, 0))) := by show _ = _; rw [← hw1, heap_alloc_new]
  have HB1 : Hid (Below w.heap.size w w1) := by rw [← hw1]; exact below_new _ _
  have HZ1 : Hid (w1.heap.size = w.heap.size + 1) := by show _ = _; rw [← hw1]; simp
  have HS := hide (hS.below HB1.out)
  obtain ⟨m, hm⟩ : ∃ m, btw a 0 64 = m := ⟨_, rfl⟩
  obtain ⟨n0, hn0⟩ : ∃ n0, btw b 0 4611686018427387904 = n0 := ⟨_, rfl⟩
  have HM : Hid (btw a 0 64 = m ∧ 0 ≤ m ∧ m ≤ 64) := ⟨hm, by unfold btw at hm; omega, by unfold btw at hm; omega⟩
  have HN : Hid (btw b 0 4611686018427387904 = n0 ∧ 0 ≤ n0 ∧ n0 ≤ 4611686018427387904) := ⟨hn0, by unfold btw at hn0; omega, by unfold btw at hn0; omega⟩
  have HCX : Hid (∀ W, Below w1.heap.size w1 W → W.cell? ⟨w.heap.size, 0, none⟩ = some (.int .i64 a) ∧ W.cell? ⟨w.heap.size, 1, none⟩ = some (.int .i64 b) ∧ W.cell? ⟨w.heap.size, 4, none⟩ = some (.slice so n sc)) := by
    intro W hb
    have h := (hb.block w.heap.size (by have := HZ1.out; omega)).trans HX.out
    exact ⟨by simp [World.cell?, h], by simp [World.cell?, h], by simp [World.cell?, h]⟩
  clear hS hm hn0 HX
  go_enter Try.func3, Try.ntmps3
  go_wp2_with fail
  clear hw1
  refine (fixed_any w1).mono ?_
  rintro e w2 ⟨rfl, b2⟩
  obtain ⟨x0, x1, x4⟩ := HCX.out w2 b2
  have HB2 := hide b2
  clear b2
  go_wp2_with fail
  refine (new_any (B := w1.heap.size) a b w2 HB2.out.size).mono ?_
  rintro e w3 ⟨rfl, L3, b3⟩
  rw [HM.out.1, HN.out.1] at L3
  have HL3 := hide L3
  have HB3 := hide (HB2.out.trans (b3.mono HB2.out.size))
  have HS3 := hide b3.size
  obtain ⟨g, hg⟩ : ∃ g, w2.heap.size = g := ⟨_, rfl⟩
  rw [hg] at HL3 ⊢
  clear L3 b3 hg x0 x1 x4
  obtain ⟨x0, x1, x4⟩ := HCX.out w3 HB3.out
  go_upto_region 6 with fail
  go_cut [4] from 20 to 23 (fun s wx => s = .int .i64 m ∧ wx = w3)
  case first =>
    have hm := HM.out.1
    unfold btw at hm
    go_wp2
    all_goals (go_meet; exact ⟨by congr 1 <;> omega, rfl⟩)
  case rest =>
    obtain ⟨rfl, rfl⟩ := hcut
    have HD3 : Hid (Bd m n0 []) := ⟨HM.out.2.1, HM.out.2.2, by have := HN.out.2.1; simpa using this, by have := HN.out.2.2; omega, by decide⟩
    go_wp2_with fail
    refine (next_any _ HL3.out).mono ?_
    rintro e wn ⟨rfl, rfl⟩
    go_wp2_with fail
    refine (first_k _ HL3.out HD3.out (F := n0) (by simp)).mono ?_
    rintro e w4 ⟨rfl, L4, b4⟩
    have HL4 := hide L4
    have HB4 := hide (HB3.out.trans (b4.mono HB3.out.size))
    clear b4 L4 x0 x1 x4
    obtain ⟨x0, x1, x4⟩ := HCX.out w4 HB4.out
    go_upto_region 8 with fail
    go_cut [38] from 28 to 37 (fun s wx => s = .bool false ∧ wx = w4)
    case first =>
      have hn := HN.out.1
      unfold btw at hn
      go_wp2
      all_goals (go_meet; exact ⟨rfl, rfl⟩)
    case rest =>
      obtain ⟨rfl, rfl⟩ := hcut
      have HLV : Hid (Lg w1.heap.size wc g m n0 [] none 0 ∧ Bd m n0 [] ∧ n0 - (([] : List Int).length : Int) = n0 ∧ ((([] : List Int).length : Nat) : Int) ≤ m) := ⟨HL4.out, HD3.out, by simp, by simpa using HM.out.2.1⟩
      have HNV : Hid (n0 ≤ 4611686018427387904 + ((0 : Nat) : Int)) := by show _ ≤ _; have := HN.out.2.2; omega
      have HSV : Hid (w1.heap.size ≤ wc.heap.size) := HB4.out.size
      clear HL3 HL4 HB3 HB2 HD3 HS3 x0 x1 x4
      go_wp2_with fail
      go_loopw [5, 6, 7] (fun nv fv i wr => ∃ k : Nat, k ≤ n ∧ i = .int .i64 k ∧ ∃ (N F : Int) (Z : List Int) (ao : Option Addr) (cap : Nat), nv = .int .i64 N ∧ fv = .int .i64 F ∧ Hid (Lg w1.heap.size wr g m N Z ao cap ∧ Bd m N Z ∧ N - Z.length = F ∧ (Z.length : Int) ≤ m) ∧ Hid (N ≤ 4611686018427387904 + (k : Int)) ∧ Hid (Below w1.heap.size w1 wr) ∧ Hid (w1.heap.size ≤ wr.heap.size)) (fun _ _ i _ => n - (intOf i).toNat)
      case atStart => exact ⟨0, Nat.zero_le _, rfl, n0, n0, [], none, 0, rfl, rfl, HLV, HNV, HB4, HSV⟩
      case round =>
        obtain ⟨k, hk, rfl, N, F, Z, ao, cap, rfl, rfl, HL, HNK, HB, HSB⟩ := hrel
        obtain ⟨x0, x1, x4⟩ := HCX.out wr HB.out
        by_cases hlt : k < n
        · obtain ⟨ad, rfl, A0⟩ := (HS.out.below HB.out).at k hlt
          have hbig := HS.out.big
          obtain ⟨e, He⟩ : ∃ e, S.getD k dp0 = e := ⟨_, rfl⟩
          rw [He] at A0
          have hld := run_ldO A0
          obtain ⟨wk, hst, X1, B1, Z1⟩ := madeO wr e wr.heap.size rfl
          have HP : Hid (g < wr.heap.size ∧ ∀ ad, ao = some ad → ad.block < wr.heap.size) := ⟨HL.out.1.lt, fun ad e => (HL.out.1.row ad e).2⟩
          replace HL := hide (And.intro (HL.out.1.below B1) HL.out.2)
          replace HB := hide (HB.out.trans (B1.mono HSB.out))
          replace HSB := hide (Nat.le_trans HSB.out B1.size)
          have HXO : Hid (DBox wk wr.heap.size e) := X1
          have f1 := HL.out.2.1.n0
          have f2 := HL.out.2.1.n1
          have f3 := HL.out.2.2.1
          have f4 := HL.out.2.2.2
          have f5 := HNK.out
          have f6 := HM.out.2
          have HFC : Hid ((Z.length : Int) ≤ N ∧ N - Z.length = F ∧ (Z.length : Int) ≤ m ∧ N ≤ 4611686018427387904 + (k : Int) ∧ 0 ≤ m ∧ m ≤ 64 ∧ k < n ∧ n ≤ 4398046511104) := ⟨f1, f3, f4, f5, f6.1, f6.2, hlt, hbig⟩
          replace HNK : Hid (N ≤ 4611686018427387904 + ((k + 1 : Nat) : Int)) := by show _ ≤ _; omega
          clear A0 B1 Z1 He f1 f2 f3 f4 f5 f6 hbig
          have HK1 : Hid (wrap64 ((k : Int) + 1) = ((k + 1 : Nat) : Int)) := by show _ = _; have := HFC.out; rw [w64 (by omega) (by omega)]; rfl
          by_cases h1 : e.kind = 1
          · have o0 : wk.cell? ⟨wr.heap.size, 0, none⟩ = some (.int .i64 1) := by rw [← h1]; exact X1.at.c0
            clear X1
            go_wp2_with fail
            refine (next_any _ HL.out.1).mono ?_
            rintro e' wn ⟨rfl, rfl⟩
            go_wp2_with fail
            refine (first_k _ HL.out.1 HL.out.2.1 HL.out.2.2.1).mono ?_
            rintro e' v0 ⟨rfl, l, b⟩
            replace HL := hide (And.intro l HL.out.2)
            replace HB := hide (HB.out.trans (b.mono HSB.out))
            replace HSB := hide (Nat.le_trans HSB.out b.size)
            have o3 : v0.cell? ⟨wr.heap.size, 3, none⟩ = some (.int .i64 e.x) := by
              have := (HXO.out.at.on b).c3
              simpa [Addr.add] using this
            have hh : wrap64 (N - F) = (Z.length : Int) := by have := HFC.out; rw [w64 (by omega) (by omega)]; omega
            clear l b o0 hst hld
            go_wp2_with fail
            refine (push_any _ HL.out.1 HL.out.2.1 (by have := HFC.out; omega) (by have := HFC.out; omega) e.x).mono ?_
            rintro e' v1 ⟨bo, cap2, rfl, l, kp, nw⟩
            have hpl := pushed_len m N Z e.x HFC.out.2.2.2.2.1
            obtain ⟨Y, hY⟩ : ∃ Y, pushed m N Z e.x = Y := ⟨_, rfl⟩
            rw [hY] at l hpl
            replace HB := hide (kp.below HB.out HL.out.1.hg (fun ad e => (HL.out.1.row ad e).1) HSB.out)
            replace HSB := hide (Nat.le_trans HSB.out kp.size)
            have hn1 : wrap64 (N + 1) = N + 1 := by have := HFC.out; exact w64 (by omega) (by omega)
            have HD : Hid (Bd m (N + 1) Y) := by have := HFC.out; exact ⟨by omega, by omega, by omega, by omega, by omega⟩
            have HLQ := hide l
            have HPL := hide hpl
            clear l kp nw hY hpl HL
            have HQ := HLQ
            clear HLQ
            replace HNK : Hid (N + 1 ≤ 4611686018427387904 + ((k + 1 : Nat) : Int)) := by show _ ≤ _; have := HFC.out; omega
            by_cases h2 : (Z.length : Int) < m
            · have HL : Hid (Lg w1.heap.size v1 g m (N + 1) Y bo cap2 ∧ Bd m (N + 1) Y ∧ N + 1 - Y.length = F ∧ (Y.length : Int) ≤ m) := by have := HFC.out; have := HPL.out; exact ⟨HQ.out, HD.out, by omega, by omega⟩
              have h3 : ¬ ((Z.length : Int) = m) := by omega
              have t2 : ¬ (N + 1 < F) := by have := HFC.out; omega
              have t3 : wrap64 (N + 1 - F) = (Y.length : Int) := by have := HFC.out; have := HPL.out; rw [w64 (by omega) (by omega)]; omega
              have t4 : ¬ (m < (Y.length : Int)) := by have := HPL.out; omega
              clear HQ HD
              go_wp2_with fail
              refine (next_any _ HL.out.1).mono ?_
              rintro e' wn ⟨rfl, rfl⟩
              go_wp2_with fail
              refine (first_k _ HL.out.1 HL.out.2.1 HL.out.2.2.1).mono ?_
              rintro e' u1 ⟨rfl, l, b⟩
              replace HL := hide (And.intro l HL.out.2)
              replace HB := hide (HB.out.trans (b.mono HSB.out))
              replace HSB := hide (Nat.le_trans HSB.out b.size)
              clear l b
              go_wp2_with fail
              refine (next_any _ HL.out.1).mono ?_
              rintro e wn ⟨rfl, rfl⟩
              go_wp2_with fail
              refine (first_k _ HL.out.1 HL.out.2.1 HL.out.2.2.1).mono ?_
              rintro e v1 ⟨rfl, l, b⟩
              replace HL := hide (And.intro l HL.out.2)
              replace HB := hide (HB.out.trans (b.mono HSB.out))
              replace HSB := hide (Nat.le_trans HSB.out b.size)
              clear l b
              go_wp2_with fail
              refine (first_k _ HL.out.1 HL.out.2.1 HL.out.2.2.1).mono ?_
              rintro e v2 ⟨rfl, l, b⟩
              replace HL := hide (And.intro l HL.out.2)
              replace HB := hide (HB.out.trans (b.mono HSB.out))
              replace HSB := hide (Nat.le_trans HSB.out b.size)
              clear l b
              go_wp2_with fail
              refine (first_k _ HL.out.1 HL.out.2.1 HL.out.2.2.1).mono ?_
              rintro e v3 ⟨rfl, l, b⟩
              replace HL := hide (And.intro l HL.out.2)
              replace HB := hide (HB.out.trans (b.mono HSB.out))
              replace HSB := hide (Nat.le_trans HSB.out b.size)
              clear l b
              go_wp2_with fail
              refine (first_k _ HL.out.1 HL.out.2.1 HL.out.2.2.1).mono ?_
              rintro e v4 ⟨rfl, l, b⟩
              replace HL := hide (And.intro l HL.out.2)
              replace HB := hide (HB.out.trans (b.mono HSB.out))
              replace HSB := hide (Nat.le_trans HSB.out b.size)
              clear l b
              go_wp2_with fail
              go_roundw
              case rel => exact ⟨k + 1, HFC.out.2.2.2.2.2.2.1, by rw [HK1.out], _, _, _, _, _, rfl, rfl, HL, HNK, HB, HSB⟩
              case measure => rw [HK1.out]; exact meas HFC.out.2.2.2.2.2.2.1
            · have h3 : (Z.length : Int) = m := by have := HFC.out; omega
              have HL : Hid (Lg w1.heap.size v1 g m (N + 1) Y bo cap2 ∧ Bd m (N + 1) Y ∧ N + 1 - Y.length = F + 1 ∧ (Y.length : Int) ≤ m) := by have := HFC.out; have := HPL.out; exact ⟨HQ.out, HD.out, by omega, by omega⟩
              have t0 : wrap64 (F + 1) = F + 1 := by have := HFC.out; exact w64 (by omega) (by omega)
              have t1 : ¬ (F + 1 < F) := by omega
              have t2 : ¬ (N + 1 < F + 1) := by have := HFC.out; omega
              have t3 : wrap64 (N + 1 - (F + 1)) = (Y.length : Int) := by have := HFC.out; have := HPL.out; rw [w64 (by omega) (by omega)]; omega
              have t4 : ¬ (m < (Y.length : Int)) := by have := HPL.out; omega
              clear HQ HD
              go_wp2_with fail
              refine (next_any _ HL.out.1).mono ?_
              rintro e' wn ⟨rfl, rfl⟩
              go_wp2_with fail
              refine (first_k _ HL.out.1 HL.out.2.1 HL.out.2.2.1).mono ?_
              rintro e' u1 ⟨rfl, l, b⟩
              replace HL := hide (And.intro l HL.out.2)
              replace HB := hide (HB.out.trans (b.mono HSB.out))
              replace HSB := hide (Nat.le_trans HSB.out b.size)
              clear l b
              go_wp2_with fail
              refine (next_any _ HL.out.1).mono ?_
              rintro e wn ⟨rfl, rfl⟩
              go_wp2_with fail
              refine (first_k _ HL.out.1 HL.out.2.1 HL.out.2.2.1).mono ?_
              rintro e v1 ⟨rfl, l, b⟩
              replace HL := hide (And.intro l HL.out.2)
              replace HB := hide (HB.out.trans (b.mono HSB.out))
              replace HSB := hide (Nat.le_trans HSB.out b.size)
              clear l b
              go_wp2_with fail
              refine (first_k _ HL.out.1 HL.out.2.1 HL.out.2.2.1).mono ?_
              rintro e v2 ⟨rfl, l, b⟩
              replace HL := hide (And.intro l HL.out.2)
              replace HB := hide (HB.out.trans (b.mono HSB.out))
              replace HSB := hide (Nat.le_trans HSB.out b.size)
              clear l b
              go_wp2_with fail
              refine (first_k _ HL.out.1 HL.out.2.1 HL.out.2.2.1).mono ?_
              rintro e v3 ⟨rfl, l, b⟩
              replace HL := hide (And.intro l HL.out.2)
              replace HB := hide (HB.out.trans (b.mono HSB.out))
              replace HSB := hide (Nat.le_trans HSB.out b.size)
              clear l b
              go_wp2_with fail
              refine (first_k _ HL.out.1 HL.out.2.1 HL.out.2.2.1).mono ?_
              rintro e v4 ⟨rfl, l, b⟩
              replace HL := hide (And.intro l HL.out.2)
              replace HB := hide (HB.out.trans (b.mono HSB.out))
              replace HSB := hide (Nat.le_trans HSB.out b.size)
              clear l b
              go_wp2_with fail
              go_roundw
              case rel => exact ⟨k + 1, HFC.out.2.2.2.2.2.2.1, by rw [HK1.out], _, _, _, _, _, rfl, rfl, HL, HNK, HB, HSB⟩
              case measure => rw [HK1.out]; exact meas HFC.out.2.2.2.2.2.2.1
          · by_cases h2 : e.kind = 5
            · have o0 : wk.cell? ⟨wr.heap.size, 0, none⟩ = some (.int .i64 5) := by rw [← h2]; exact X1.at.c0
              have o2 : wk.cell? ⟨wr.heap.size, 2, none⟩ = some (.int .i64 e.n) := by
                have := X1.at.c2
                simpa [Addr.add] using this
              clear X1
              go_wp2_with fail
              refine (trim_any _ HL.out.1 HL.out.2.1 e.n).mono ?_
              rintro e' v1 ⟨rfl, l, kp⟩
              obtain ⟨q1, q2⟩ := cutN_le N Z e.n
              obtain ⟨c, hc⟩ : ∃ c, cutN N Z e.n = c := ⟨_, rfl⟩
              rw [hc] at l q1 q2 ⊢
              have o2' : v1.cell? ⟨wr.heap.size, 2, none⟩ = some (.int .i64 e.n) := by
                rw [World.cell?_of_block (kp.block wr.heap.size HXO.out.lt (by have := HP.out.1; omega) (fun ad e he => by have := HP.out.2 ad e; omega))]
                exact o2
              replace HB := hide (kp.below HB.out HL.out.1.hg (fun ad e => (HL.out.1.row ad e).1) HSB.out)
              replace HSB := hide (Nat.le_trans HSB.out kp.size)
              obtain ⟨Y, hY⟩ : ∃ Y, Z.drop c = Y := ⟨_, rfl⟩
              have hyl : (Y.length : Int) = Z.length - c := by rw [← hY, List.length_drop]; omega
              rw [hY] at l
              have HD : Hid (Bd m N Y) := by have := HFC.out; exact ⟨by omega, by omega, by omega, by omega, by omega⟩
              replace HL : Hid (Lg w1.heap.size v1 g m N Y ao cap ∧ Bd m N Y ∧ N - Y.length = F + c ∧ (Y.length : Int) ≤ m) := by have := HFC.out; exact ⟨l, HD.out, by omega, by omega⟩
              have q3 : wrap64 (min (max e.n F) N - F) = (c : Int) := by have := HFC.out; rw [this.2.1] at q2; unfold btw at q2; rw [← q2]; exact w64 (by omega) (by omega)
              have q4 : wrap64 (F + (c : Int)) = F + (c : Int) := by have := HFC.out; exact w64 (by omega) (by omega)
              have t1 : ¬ (F + (c : Int) < F) := by omega
              have t2 : ¬ (N < F + (c : Int)) := by have := HFC.out; omega
              have t3 : wrap64 (N - (F + (c : Int))) = (Y.length : Int) := by have := HFC.out; rw [w64 (by omega) (by omega)]; omega
              have t4 : ¬ (m < (Y.length : Int)) := by have := HFC.out; omega
              clear l kp hY hyl q1 q2 hc HD o0 o2 hst hld
              go_wp2_with fail
              refine (first_k _ HL.out.1 HL.out.2.1 HL.out.2.2.1).mono ?_
              rintro e' u1 ⟨rfl, l, b⟩
              replace HL := hide (And.intro l HL.out.2)
              replace HB := hide (HB.out.trans (b.mono HSB.out))
              replace HSB := hide (Nat.le_trans HSB.out b.size)
              clear l b
              go_wp2_with fail
              refine (next_any _ HL.out.1).mono ?_
              rintro e wn ⟨rfl, rfl⟩
              go_wp2_with fail
              refine (first_k _ HL.out.1 HL.out.2.1 HL.out.2.2.1).mono ?_
              rintro e v1 ⟨rfl, l, b⟩
              replace HL := hide (And.intro l HL.out.2)
              replace HB := hide (HB.out.trans (b.mono HSB.out))
              replace HSB := hide (Nat.le_trans HSB.out b.size)
              clear l b
              go_wp2_with fail
              refine (first_k _ HL.out.1 HL.out.2.1 HL.out.2.2.1).mono ?_
              rintro e v2 ⟨rfl, l, b⟩
              replace HL := hide (And.intro l HL.out.2)
              replace HB := hide (HB.out.trans (b.mono HSB.out))
              replace HSB := hide (Nat.le_trans HSB.out b.size)
              clear l b
              go_wp2_with fail
              refine (first_k _ HL.out.1 HL.out.2.1 HL.out.2.2.1).mono ?_
              rintro e v3 ⟨rfl, l, b⟩
              replace HL := hide (And.intro l HL.out.2)
              replace HB := hide (HB.out.trans (b.mono HSB.out))
              replace HSB := hide (Nat.le_trans HSB.out b.size)
              clear l b
              go_wp2_with fail
              refine (first_k _ HL.out.1 HL.out.2.1 HL.out.2.2.1).mono ?_
              rintro e v4 ⟨rfl, l, b⟩
              replace HL := hide (And.intro l HL.out.2)
              replace HB := hide (HB.out.trans (b.mono HSB.out))
              replace HSB := hide (Nat.le_trans HSB.out b.size)
              clear l b
              go_wp2_with fail
              go_roundw
              case rel => exact ⟨k + 1, HFC.out.2.2.2.2.2.2.1, by rw [HK1.out], _, _, _, _, _, rfl, rfl, HL, HNK, HB, HSB⟩
              case measure => rw [HK1.out]; exact meas HFC.out.2.2.2.2.2.2.1
            · have o0 : wk.cell? ⟨wr.heap.size, 0, none⟩ = some (.int .i64 e.kind) := X1.at.c0
              clear X1
              have t2 : ¬ (N < F) := by have := HFC.out; omega
              have t3 : wrap64 (N - F) = (Z.length : Int) := by have := HFC.out; rw [w64 (by omega) (by omega)]; omega
              have t4 : ¬ (m < (Z.length : Int)) := by have := HFC.out; omega
              go_wp2_with fail
              refine (next_any _ HL.out.1).mono ?_
              rintro e wn ⟨rfl, rfl⟩
              go_wp2_with fail
              refine (first_k _ HL.out.1 HL.out.2.1 HL.out.2.2.1).mono ?_
              rintro e v1 ⟨rfl, l, b⟩
              replace HL := hide (And.intro l HL.out.2)
              replace HB := hide (HB.out.trans (b.mono HSB.out))
              replace HSB := hide (Nat.le_trans HSB.out b.size)
              clear l b
              go_wp2_with fail
              refine (first_k _ HL.out.1 HL.out.2.1 HL.out.2.2.1).mono ?_
              rintro e v2 ⟨rfl, l, b⟩
              replace HL := hide (And.intro l HL.out.2)
              replace HB := hide (HB.out.trans (b.mono HSB.out))
              replace HSB := hide (Nat.le_trans HSB.out b.size)
              clear l b
              go_wp2_with fail
              refine (first_k _ HL.out.1 HL.out.2.1 HL.out.2.2.1).mono ?_
              rintro e v3 ⟨rfl, l, b⟩
              replace HL := hide (And.intro l HL.out.2)
              replace HB := hide (HB.out.trans (b.mono HSB.out))
              replace HSB := hide (Nat.le_trans HSB.out b.size)
              clear l b
              go_wp2_with fail
              refine (first_k _ HL.out.1 HL.out.2.1 HL.out.2.2.1).mono ?_
              rintro e v4 ⟨rfl, l, b⟩
              replace HL := hide (And.intro l HL.out.2)
              replace HB := hide (HB.out.trans (b.mono HSB.out))
              replace HSB := hide (Nat.le_trans HSB.out b.size)
              clear l b
              go_wp2_with fail
              go_roundw
              case rel => exact ⟨k + 1, HFC.out.2.2.2.2.2.2.1, by rw [HK1.out], _, _, _, _, _, rfl, rfl, HL, HNK, HB, HSB⟩
              case measure => rw [HK1.out]; exact meas HFC.out.2.2.2.2.2.2.1
        · obtain rfl : k = n := by omega
          have HW := hide (HB1.out.trans (HB.out.mono HB1.out.size))
          go_wp2_with fail
          go_ret
          exact ⟨rfl, HW.out⟩
end Go.Proofs.Ythdaaikegddeeaa
