/- Rows of records; keep's Check. -/
import Derived.Shelf.Small.Strs
import Derived.Test.YtojpjakpcihacaaGreatProg
import Derived.Test.YtojpjakpcihacaaGreatRPv
import Derived.Test.YtojpjakpcihacaaGreatPCm
import Derived.Test.YtojpjakpcihacaaGreatVKc
import Derived.Test.YtojpjakpcihacaaGreatPBk
import Derived.Test.YtojpjakpcihacaaGreatPIs
import Derived.Test.YtojpjakpcihacaaGreatPNo
import Derived.Test.YtojpjakpcihacaaGreatGBs
import Derived.Deep.MidRow
import Derived.Test.YtojpjakpcihacaaGreatLChk
import Derived.Test.YtojpjakpcihacaaGreatPNm
import Derived.Test.YtojpjakpcihacaaGreatLSku

namespace Go.Proofs
open Go.Shelf
def Tryz.lays106_ren : Go.Shelf.Ren := ⟨fun | 106 => 70 | 213 => 92 | 265 => 114 | n => n, fun | 9 => 9 | 3 => 3 | n => n, fun | n => n⟩
theorem Tryz.lays106 : Go.Proofs.Lays.n106 Tryz.prog Tryz.lays106_ren := {
  mixed := by kernel_rfl
  f106 := Tryz.func70.trans (congrArg some (by kernel_rfl))
  f213 := Tryz.func92.trans (congrArg some (by kernel_rfl))
  f265 := Tryz.func114.trans (congrArg some (by kernel_rfl))
  t3 := Tryz.underlying3
  a3 := Tryz.isAgg3
  z3 := Tryz.sizeOf3
  v3 := Tryz.zeroValue3
  t9 := Tryz.underlying9
  a9 := Tryz.isAgg9
  z9 := Tryz.sizeOf9
  v9 := Tryz.zeroValue9 }
/-- strings.Compare -/
theorem Tryz.strings_Compare (a b : ByteArray) (w : World) :
    Calls Tryz.prog 70 #[.string a, .string b] w fun e w' => e = .returned (.int .i64 (Lib.compareBytes a.data.toList b.data.toList)) ∧ w' = w := Any.strings_Compare Tryz.lays106 a b w
end Go.Proofs

namespace Go.Proofs.YtojpjakpcihacaaGreat

/-- one run laid over a form -/
theorem norm_one (r : Rn) : ∃ Y, NormOf [r] Y := by
  by_cases h : (clip r).lo ≤ (clip r).hi
  · refine ⟨[clip r], ⟨by unfold clip; simp only; omega, h, by unfold clip; simp only; omega, trivial⟩, fun n => ?_⟩
    rw [mem_one, mem_one]; unfold clip; simp only; omega
  · refine ⟨[], trivial, fun n => ?_⟩
    rw [mem_one]
    exact ⟨fun e => absurd e (mem_nil n), fun e => by unfold clip at h; simp only at h; omega⟩
theorem form_under {Y : List Rn} : ∀ {l : Int} (_ : form l Y) (a b : Int), 1 ≤ l → 1 ≤ a → a ≤ b → b ≤ 1000000000 → ∃ Z, form (min l a) Z ∧ ∀ n, mem Z n ↔ mem Y n ∨ (a ≤ n ∧ n ≤ b) := by
  induction Y with
  | nil => exact fun _ a b _ h1 h2 h3 => ⟨[⟨a, b⟩], ⟨by simp only; omega, h2, h3, trivial⟩, fun n => by rw [mem_one]; exact ⟨fun e => Or.inr e.2.2, fun e => e.elim (fun e => absurd e (mem_nil n)) (fun e => by simp only; omega)⟩⟩
  | cons r Y ih =>
    intro l hf a b hl h1 h2 h3
    obtain ⟨f1, f2, f3, f4⟩ := hf
    by_cases c1 : b + 1 < r.lo
    · refine ⟨⟨a, b⟩ :: r :: Y, ⟨by simp only; omega, h2, h3, by simp only; omega, f2, f3, f4⟩, fun n => ?_⟩
      rw [mem_cons]
      simp only
      exact ⟨fun e => e.elim (fun e => Or.inr e.2.2) Or.inl, fun e => e.elim Or.inr (fun e => Or.inl (by omega))⟩
    · by_cases c2 : r.hi + 1 < a
      · obtain ⟨Z, g1, g2⟩ := ih f4 a b (by omega) h1 h2 h3
        refine ⟨r :: Z, ⟨by omega, f2, f3, form_mono (by omega) g1⟩, fun n => ?_⟩
        rw [mem_cons, mem_cons, g2 n, or_assoc]
      · obtain ⟨Z, g1, g2⟩ := ih f4 (min a r.lo) (max b r.hi) (by omega) (by omega) (by omega) (by omega)
        refine ⟨Z, form_mono (by omega) g1, fun n => ?_⟩
        rw [g2 n, mem_cons]
        constructor
        · rintro (e | e)
          · exact Or.inl (Or.inr e)
          · by_cases d : a ≤ n ∧ n ≤ b
            · exact Or.inr d
            · exact Or.inl (Or.inl (by omega))
        · rintro ((e | e) | e)
          · exact Or.inr (by omega)
          · exact Or.inl e
          · exact Or.inr (by omega)
theorem norm_ex : ∀ (A : List Rn), ∃ Y, NormOf A Y
  | [] => ⟨[], trivial, fun _ => Iff.rfl⟩
  | r :: A => by
    obtain ⟨Y, h1, h2⟩ := norm_ex A
    by_cases h : (clip r).lo ≤ (clip r).hi
    · obtain ⟨Z, g1, g2⟩ := form_under h1 (clip r).lo (clip r).hi (Int.le_refl _) (by unfold clip; simp only; omega) h (by unfold clip; simp only; omega)
      refine ⟨Z, form_mono (by unfold clip; simp only; omega) g1, fun n => ?_⟩
      rw [g2 n, h2 n, mem_cons]
      unfold clip; simp only
      exact ⟨fun e => e.elim Or.inr (fun e => Or.inl (by omega)), fun e => e.elim (fun e => Or.inr (by omega)) Or.inl⟩
    · refine ⟨Y, h1, fun n => ?_⟩
      rw [h2 n, mem_cons]
      exact ⟨Or.inr, fun e => e.elim (fun e => by unfold clip at h; simp only at h; omega) id⟩
end Go.Proofs.YtojpjakpcihacaaGreat

namespace Go.Proofs.YtojpjakpcihacaaGreat
open Go.RowKit

theorem cmp_below (x y : Int) (w : World) : Calls Tryz.prog 68 #[.int .i64 x, .int .i64 y] w fun e w' => e = .returned (.int .i64 (cmpI x y)) ∧ Below w.heap.size w w' := (cmp_any x y w).mono fun _ _ h => ⟨h.1, by rw [h.2]; exact Below.refl _ _⟩
/-- the first that isn't nought -/
def orL : List Int → Int
  | [] => 0
  | a :: t => if a = 0 then orL t else a
theorem drop_getD {α : Type} (L : List α) (k : Nat) (d : α) (h : k < L.length) : L.drop k = L.getD k d :: L.drop (k + 1) := by
  rw [List.drop_eq_getElem_cons h]; simp [List.getD, h]
set_option maxHeartbeats 800000 in
theorem or_any (ao : Option Addr) (n c : Nat) (Z : List Int) (w : World) (hS : V.Src w ao n c Z) (gn : n ≤ 17592186044415) :
    Calls Tryz.prog 67 #[.slice ao n c] w fun e w' => e = .returned (.int .i64 (orL Z)) ∧ Below w.heap.size w w' := by
  have HS := hide hS
  have HL : Hid (Z.length = n) := hS.1
  clear hS
  go_enter Tryz.func67, Tryz.ntmps67
  go_wp2_with fail
  go_loopw [8] (fun i wr => ∃ k : Nat, k ≤ n ∧ i = .int .i64 k ∧ Hid (orL Z = orL (Z.drop k)) ∧ wr = w) (fun i _ => n - (intOf i).toNat)
  case atStart => exact ⟨0, Nat.zero_le _, rfl, rfl, rfl⟩
  case round =>
    obtain ⟨k, hk, rfl, HO, rfl⟩ := hrel
    by_cases hlt : k < n
    · obtain ⟨ad, rfl, ca⟩ := HS.out.at k hlt
      have HD := hide (drop_getD Z k 0 (by rw [HL.out]; exact hlt))
      obtain ⟨z, Hz⟩ : ∃ z, Hid (Z.getD k 0 = z) := ⟨_, rfl⟩
      rw [Hz.out] at ca HD
      by_cases h0 : z = 0
      · have h0' : (z != 0) = false := by simpa using h0
        have HN : Hid (orL Z = orL (Z.drop (k + 1))) := by show _ = _; rw [HO.out, HD.out, orL, if_pos h0]
        clear h0
        go_wp2_with fail
        go_roundw
        case rel => exact ⟨k + 1, by omega, by go_num, HN, by trivial⟩
        case measure => simp [intOf]; omega
      · have h0' : (z != 0) = true := by simpa using h0
        have HN : Hid (orL Z = z) := by show _ = _; rw [HO.out, HD.out, orL, if_neg h0]
        clear h0
        go_wp2_with fail
        go_ret
        exact ⟨ret_int HN.out.symm, Below.refl _ _⟩
    · obtain rfl : k = n := by omega
      have HN : Hid (orL Z = 0) := by show _ = _; rw [HO.out, List.drop_of_length_le (by rw [HL.out]; exact Nat.le_refl _)]; rfl
      go_wp2_with fail
      go_ret
      exact ⟨ret_int HN.out.symm, Below.refl _ _⟩
section
variable {α : Type} {c : α → α → Int} {A B : List α} {k : Nat}
theorem lex_more (hc : Tot c) (h : A.take k = B.take k) (ha : k < A.length) (hb : B.length = k) : lex c A B = 1 := by
  rw [lex_drop hc A B k h (by omega) (by omega), List.drop_of_length_le (l := B) (by omega), List.drop_eq_getElem_cons ha]
  rfl
theorem lex_less (hc : Tot c) (h : A.take k = B.take k) (ha : A.length = k) (hb : k < B.length) : lex c A B = -1 := by
  rw [lex_drop hc A B k h (by omega) (by omega), List.drop_of_length_le (l := A) (by omega), List.drop_eq_getElem_cons hb]
  rfl
theorem lex_same (hc : Tot c) (h : A.take k = B.take k) (ha : A.length = k) (hb : B.length = k) : lex c A B = 0 := by
  rw [lex_drop hc A B k h (by omega) (by omega), List.drop_of_length_le (l := A) (by omega), List.drop_of_length_le (l := B) (by omega)]
  rfl
theorem lex_diff (hc : Tot c) (d : α) (h : A.take k = B.take k) (ha : k < A.length) (hb : k < B.length) (hn : ¬ c (A.getD k d) (B.getD k d) = 0) : lex c A B = c (A.getD k d) (B.getD k d) := by
  rw [lex_drop hc A B k h (by omega) (by omega), drop_getD A k d ha, drop_getD B k d hb, lex, if_neg hn]
theorem take_on (hc : Tot c) (d : α) (h : A.take k = B.take k) (ha : k < A.length) (hb : k < B.length) (hn : c (A.getD k d) (B.getD k d) = 0) : A.take (k + 1) = B.take (k + 1) := by
  have e := (hc.eq _ _).1 hn
  rw [List.take_succ_eq_append_getElem ha, List.take_succ_eq_append_getElem hb, h]
  simp only [List.getD, List.getElem?_eq_getElem ha, List.getElem?_eq_getElem hb, Option.getD_some] at e
  rw [e]
end
set_option maxRecDepth 100000 in
set_option maxHeartbeats 1600000 in
theorem slCompare_any (ao bo : Option Addr) (n cn m cm : Nat) (A B : List Int) (w : World) (hA : V.Src w ao n cn A) (hB : V.Src w bo m cm B) (gn : n ≤ 17592186044415) (_ : m ≤ 17592186044415) :
    Calls Tryz.prog 94 #[.slice ao n cn, .slice bo m cm] w fun e w' => e = .returned (.int .i64 (lex cmpI A B)) ∧ Below w.heap.size w w' := by
  have HA := hide hA
  have HB := hide hB
  have HLA : Hid (A.length = n) := hA.1
  have HLB : Hid (B.length = m) := hB.1
  clear hA hB
  go_enter Tryz.func94, Tryz.ntmps94
  go_wp2_with fail
  go_loopw [11] (fun i wr => ∃ k : Nat, k ≤ n ∧ i = .int .i64 k ∧ Hid (A.take k = B.take k ∧ k ≤ m) ∧ wr = w) (fun i _ => n - (intOf i).toNat)
  case atStart => exact ⟨0, Nat.zero_le _, rfl, ⟨rfl, Nat.zero_le _⟩, rfl⟩
  case round =>
    obtain ⟨k, hk, rfl, HO, rfl⟩ := hrel
    have hkm := HO.out.2
    by_cases hlt : k < n
    · obtain ⟨ad, rfl, ca⟩ := HA.out.at k hlt
      by_cases hm : k < m
      · obtain ⟨bd, rfl, cb⟩ := HB.out.at k hm
        have HAL : Hid (k < A.length) := by rw [HLA.out]; exact hlt
        have HBL : Hid (k < B.length) := by rw [HLB.out]; exact hm
        have hm' : ¬ (m : Int) ≤ (k : Int) := by omega
        by_cases h0 : cmpI (A.getD k 0) (B.getD k 0) = 0
        · have HN := hide (take_on cmpI_tot 0 HO.out.1 HAL.out HBL.out h0)
          obtain ⟨z, hz⟩ : ∃ z, cmpI (A.getD k 0) (B.getD k 0) = z := ⟨_, rfl⟩
          have HZ := hide hz
          rw [hz] at h0
          subst h0
          clear hz
          obtain ⟨x, hx⟩ : ∃ x, A.getD k 0 = x := ⟨_, rfl⟩
          obtain ⟨y, hy⟩ : ∃ y, B.getD k 0 = y := ⟨_, rfl⟩
          rw [hx] at ca HZ
          rw [hy] at cb HZ
          clear hx hy
          go_wp2_with (go_at_call 68; refine (cmp_any x y _).mono ?_; rintro e w' ⟨rfl, rfl⟩; rw [HZ.out])
          go_roundw
          case rel => exact ⟨k + 1, by omega, by go_num, ⟨HN.out, by omega⟩, by trivial⟩
          case measure => simp [intOf]; omega
        · have HN := hide (lex_diff cmpI_tot 0 HO.out.1 HAL.out HBL.out h0)
          obtain ⟨z, hz⟩ : ∃ z, cmpI (A.getD k 0) (B.getD k 0) = z := ⟨_, rfl⟩
          have HZ := hide hz
          rw [hz] at h0 HN
          have h0' : (z != 0) = true := by simpa using h0
          clear hz h0
          obtain ⟨x, hx⟩ : ∃ x, A.getD k 0 = x := ⟨_, rfl⟩
          obtain ⟨y, hy⟩ : ∃ y, B.getD k 0 = y := ⟨_, rfl⟩
          rw [hx] at ca HZ
          rw [hy] at cb HZ
          clear hx hy
          go_wp2_with (go_at_call 68; refine (cmp_any x y _).mono ?_; rintro e w' ⟨rfl, rfl⟩; rw [HZ.out])
          go_ret
          exact ⟨ret_int HN.out.symm, Below.refl _ _⟩
      · have hm' : (m : Int) ≤ (k : Int) := by omega
        have HN := hide (lex_more cmpI_tot HO.out.1 (by rw [HLA.out]; exact hlt) (by rw [HLB.out]; omega))
        go_wp2_with fail
        go_ret
        exact ⟨ret_int HN.out.symm, Below.refl _ _⟩
    · obtain rfl : k = n := by omega
      by_cases hm : k < m
      · have hm' : (k : Int) < (m : Int) := by omega
        have HN := hide (lex_less cmpI_tot HO.out.1 HLA.out (by rw [HLB.out]; exact hm))
        go_wp2_with fail
        go_ret
        exact ⟨ret_int HN.out.symm, Below.refl _ _⟩
      · have hm' : ¬ (k : Int) < (m : Int) := by omega
        have HN := hide (lex_same cmpI_tot HO.out.1 HLA.out (by rw [HLB.out]; omega))
        go_wp2_with fail
        go_ret
        exact ⟨ret_int HN.out.symm, Below.refl _ _⟩
end Go.Proofs.YtojpjakpcihacaaGreat

namespace Go.Proofs.YtojpjakpcihacaaGreat
open Go.RowKit
theorem vlit3 (w : World) (x y z : Int) (C : Array Value) (hC : C = #[.int .i64 x, .int .i64 y, .int .i64 z]) (T : TypeId) : V.Src (w.alloc (.cells C T)) (some ⟨w.heap.size, 0, none⟩) 3 3 [x, y, z] := by
  subst hC
  refine ⟨rfl, fun h => (by cases h), fun ad h t ht => ?_⟩
  obtain rfl := Option.some.inj h
  rw [Addr.add_lit, Nat.zero_add, World.cell?_alloc_new]
  have : t = 0 ∨ t = 1 ∨ t = 2 := by omega
  rcases this with rfl | rfl | rfl <;> rfl
attribute [local go_sem ↓] ldS_eq stS_eq
attribute [local go_sem] zero_SC cells_SV fold_SC SC_size

theorem or3_eq (x y : Sn) : orL [cmpI x.rep y.rep, cmpI x.lo y.lo, cmpI x.hi y.hi] = cmp3 x y := by
  unfold cmp3
  simp only [orL]
  by_cases e : cmpI x.hi y.hi = 0
  · rw [if_pos e, e]
  · rw [if_neg e]
theorem or3_any (x y : Sn) (ao : Option Addr) (w : World) (hS : V.Src w ao 3 3 [cmpI x.rep y.rep, cmpI x.lo y.lo, cmpI x.hi y.hi]) :
    Calls Tryz.prog 67 #[.slice ao 3 3] w fun e w' => e = .returned (.int .i64 (cmp3 x y)) ∧ Below w.heap.size w w' := by
  rw [← or3_eq]
  exact or_any ao 3 3 _ w hS (by omega)
def PhC (sx sy : Sn) (w : World) (_ : World) : Nat → Value → World → Prop
  | 0, x, _ => x = .pointer (some ⟨w.heap.size, 0, none⟩)
  | 1, x, _ => x = .int .i64 sx.rep
  | 2, x, _ => x = .pointer (some ⟨w.heap.size + 1, 0, none⟩)
  | 3, x, _ => x = .int .i64 sy.rep
  | 4, x, _ => x = .int .i64 (cmpI sx.rep sy.rep)
  | 5, x, _ => x = .pointer (some ⟨w.heap.size, 1, none⟩)
  | 6, x, _ => x = .int .i64 sx.lo
  | 7, x, _ => x = .pointer (some ⟨w.heap.size + 1, 1, none⟩)
  | 8, x, _ => x = .int .i64 sy.lo
  | 9, x, _ => x = .int .i64 (cmpI sx.lo sy.lo)
  | 10, x, _ => x = .pointer (some ⟨w.heap.size, 2, none⟩)
  | 11, x, _ => x = .int .i64 sx.hi
  | 12, x, _ => x = .pointer (some ⟨w.heap.size + 1, 2, none⟩)
  | 13, x, _ => x = .int .i64 sy.hi
  | 14, x, _ => x = .int .i64 (cmpI sx.hi sy.hi)
  | 15, x, W => ∃ g, x = .slice (some ⟨g, 0, none⟩) 3 3 ∧ V.Src W (some ⟨g, 0, none⟩) 3 3 [cmpI sx.rep sy.rep, cmpI sx.lo sy.lo, cmpI sx.hi sy.hi]
  | 16, x, _ => x = .int .i64 (cmp3 sx sy)
  | 17, x, _ => x = .int .i64 (cmp3 sx sy)
  | _, _, _ => True
theorem PhC_mono (sx sy : Sn) (w : World) (W0 : World) : Mono (PhC sx sy w W0) := fun i x W W' h hb => match i with
  | 0 => h
  | 1 => h
  | 2 => h
  | 3 => h
  | 4 => h
  | 5 => h
  | 6 => h
  | 7 => h
  | 8 => h
  | 9 => h
  | 10 => h
  | 11 => h
  | 12 => h
  | 13 => h
  | 14 => h
  | 15 => by obtain ⟨g, e, R⟩ := h; exact ⟨g, e, R.below hb⟩
  | 16 => h
  | 17 => h
  | _ + 18 => trivial
set_option maxRecDepth 100000 in
set_option maxHeartbeats 4000000 in
theorem stC {sx sy : Sn} {w wk : World} (HX : Hid (SBox wk w.heap.size sx)) (HY : Hid (SBox wk (w.heap.size + 1) sy)) {Q : Exit → Act → World → Prop} :
    ∀ (l : Array Bool) (x : Act) (W : World), (∃ v1x0 v1x1 v1x2 v1x3 v1x4 v1x5 v1x6 v1x7 v1x8 v1x9 v1x10 v1x11 v1x12 v1x13 v1x14 v1x15 v1x16 v1x17, x = { tmps := #[SV sx, SV sy, ptr w.heap.size, ptr (w.heap.size + 1), v1x17, v1x0, v1x1, v1x2, v1x3, v1x4, v1x5, v1x6, v1x7, v1x8, v1x9, v1x10, v1x11, v1x12, v1x13, v1x14, v1x15, v1x16], defers := [] } ∧ BI 18 25 wk (PhC sx sy w wk) [] [] [] l W [v1x0, v1x1, v1x2, v1x3, v1x4, v1x5, v1x6, v1x7, v1x8, v1x9, v1x10, v1x11, v1x12, v1x13, v1x14, v1x15, v1x16, v1x17]) → ∀ i, i ∈ Region.ready .any #[{ dst := some 5, op := Op.fieldAddr 55 (Operand.tmp 2) 0, type := 0, pos := "sets.go:70", after := #[], guard := none }, { dst := some 6, op := Op.load 3 (Operand.tmp 5), type := 3, pos := "sets.go:70", after := #[{ on := 0, ground := Ground.data }], guard := none }, { dst := some 7, op := Op.fieldAddr 55 (Operand.tmp 3) 0, type := 0, pos := "sets.go:70", after := #[], guard := none }, { dst := some 8, op := Op.load 3 (Operand.tmp 7), type := 3, pos := "sets.go:70", after := #[{ on := 2, ground := Ground.data }], guard := none }, { dst := some 9, op := Op.call { callee := Callee.value (Operand.func 68), args := #[Operand.tmp 6, Operand.tmp 8], argTypes := #[3, 3] }, type := 3, pos := "sets.go:70", after := #[{ on := 1, ground := Ground.data }, { on := 3, ground := Ground.data }], guard := none }, { dst := some 10, op := Op.fieldAddr 55 (Operand.tmp 2) 1, type := 0, pos := "sets.go:70", after := #[], guard := none }, { dst := some 11, op := Op.load 3 (Operand.tmp 10), type := 3, pos := "sets.go:70", after := #[{ on := 5, ground := Ground.data }], guard := none }, { dst := some 12, op := Op.fieldAddr 55 (Operand.tmp 3) 1, type := 0, pos := "sets.go:70", after := #[], guard := none }, { dst := some 13, op := Op.load 3 (Operand.tmp 12), type := 3, pos := "sets.go:70", after := #[{ on := 7, ground := Ground.data }], guard := none }, { dst := some 14, op := Op.call { callee := Callee.value (Operand.func 68), args := #[Operand.tmp 11, Operand.tmp 13], argTypes := #[3, 3] }, type := 3, pos := "sets.go:70", after := #[{ on := 6, ground := Ground.data }, { on := 8, ground := Ground.data }, { on := 4, ground := Ground.chain }], guard := none }, { dst := some 15, op := Op.fieldAddr 55 (Operand.tmp 2) 2, type := 0, pos := "sets.go:70", after := #[], guard := none }, { dst := some 16, op := Op.load 3 (Operand.tmp 15), type := 3, pos := "sets.go:70", after := #[{ on := 10, ground := Ground.data }], guard := none }, { dst := some 17, op := Op.fieldAddr 55 (Operand.tmp 3) 2, type := 0, pos := "sets.go:70", after := #[], guard := none }, { dst := some 18, op := Op.load 3 (Operand.tmp 17), type := 3, pos := "sets.go:70", after := #[{ on := 12, ground := Ground.data }], guard := none }, { dst := some 19, op := Op.call { callee := Callee.value (Operand.func 68), args := #[Operand.tmp 16, Operand.tmp 18], argTypes := #[3, 3] }, type := 3, pos := "sets.go:70", after := #[{ on := 11, ground := Ground.data }, { on := 13, ground := Ground.data }, { on := 9, ground := Ground.chain }], guard := none }, { dst := some 20, op := Op.buildSlice 22 3 #[(0, Operand.tmp 9), (1, Operand.tmp 14), (2, Operand.tmp 19)], type := 22, pos := "sets.go:70", after := #[{ on := 4, ground := Ground.data }, { on := 9, ground := Ground.data }, { on := 14, ground := Ground.data }], guard := none }, { dst := some 21, op := Op.call { callee := Callee.value (Operand.func 67), args := #[Operand.tmp 20], argTypes := #[22] }, type := 3, pos := "sets.go:70", after := #[{ on := 15, ground := Ground.data }, { on := 14, ground := Ground.chain }], guard := none }, { dst := some 4, op := Op.assign (Operand.tmp 21), type := 3, pos := "sets.go:70", after := #[{ on := 16, ground := Ground.data }, { on := 16, ground := Ground.chain }, { on := 0, ground := Ground.phase }, { on := 1, ground := Ground.phase }, { on := 2, ground := Ground.phase }, { on := 3, ground := Ground.phase }, { on := 4, ground := Ground.phase }, { on := 5, ground := Ground.phase }, { on := 6, ground := Ground.phase }, { on := 7, ground := Ground.phase }, { on := 8, ground := Ground.phase }, { on := 9, ground := Ground.phase }, { on := 10, ground := Ground.phase }, { on := 11, ground := Ground.phase }, { on := 12, ground := Ground.phase }, { on := 13, ground := Ground.phase }, { on := 14, ground := Ground.phase }, { on := 15, ground := Ground.phase }, { on := 16, ground := Ground.phase }], guard := none }] l → wpOp Tryz.prog #[{ dst := some 5, op := Op.fieldAddr 55 (Operand.tmp 2) 0, type := 0, pos := "sets.go:70", after := #[], guard := none }, { dst := some 6, op := Op.load 3 (Operand.tmp 5), type := 3, pos := "sets.go:70", after := #[{ on := 0, ground := Ground.data }], guard := none }, { dst := some 7, op := Op.fieldAddr 55 (Operand.tmp 3) 0, type := 0, pos := "sets.go:70", after := #[], guard := none }, { dst := some 8, op := Op.load 3 (Operand.tmp 7), type := 3, pos := "sets.go:70", after := #[{ on := 2, ground := Ground.data }], guard := none }, { dst := some 9, op := Op.call { callee := Callee.value (Operand.func 68), args := #[Operand.tmp 6, Operand.tmp 8], argTypes := #[3, 3] }, type := 3, pos := "sets.go:70", after := #[{ on := 1, ground := Ground.data }, { on := 3, ground := Ground.data }], guard := none }, { dst := some 10, op := Op.fieldAddr 55 (Operand.tmp 2) 1, type := 0, pos := "sets.go:70", after := #[], guard := none }, { dst := some 11, op := Op.load 3 (Operand.tmp 10), type := 3, pos := "sets.go:70", after := #[{ on := 5, ground := Ground.data }], guard := none }, { dst := some 12, op := Op.fieldAddr 55 (Operand.tmp 3) 1, type := 0, pos := "sets.go:70", after := #[], guard := none }, { dst := some 13, op := Op.load 3 (Operand.tmp 12), type := 3, pos := "sets.go:70", after := #[{ on := 7, ground := Ground.data }], guard := none }, { dst := some 14, op := Op.call { callee := Callee.value (Operand.func 68), args := #[Operand.tmp 11, Operand.tmp 13], argTypes := #[3, 3] }, type := 3, pos := "sets.go:70", after := #[{ on := 6, ground := Ground.data }, { on := 8, ground := Ground.data }, { on := 4, ground := Ground.chain }], guard := none }, { dst := some 15, op := Op.fieldAddr 55 (Operand.tmp 2) 2, type := 0, pos := "sets.go:70", after := #[], guard := none }, { dst := some 16, op := Op.load 3 (Operand.tmp 15), type := 3, pos := "sets.go:70", after := #[{ on := 10, ground := Ground.data }], guard := none }, { dst := some 17, op := Op.fieldAddr 55 (Operand.tmp 3) 2, type := 0, pos := "sets.go:70", after := #[], guard := none }, { dst := some 18, op := Op.load 3 (Operand.tmp 17), type := 3, pos := "sets.go:70", after := #[{ on := 12, ground := Ground.data }], guard := none }, { dst := some 19, op := Op.call { callee := Callee.value (Operand.func 68), args := #[Operand.tmp 16, Operand.tmp 18], argTypes := #[3, 3] }, type := 3, pos := "sets.go:70", after := #[{ on := 11, ground := Ground.data }, { on := 13, ground := Ground.data }, { on := 9, ground := Ground.chain }], guard := none }, { dst := some 20, op := Op.buildSlice 22 3 #[(0, Operand.tmp 9), (1, Operand.tmp 14), (2, Operand.tmp 19)], type := 22, pos := "sets.go:70", after := #[{ on := 4, ground := Ground.data }, { on := 9, ground := Ground.data }, { on := 14, ground := Ground.data }], guard := none }, { dst := some 21, op := Op.call { callee := Callee.value (Operand.func 67), args := #[Operand.tmp 20], argTypes := #[22] }, type := 3, pos := "sets.go:70", after := #[{ on := 15, ground := Ground.data }, { on := 14, ground := Ground.chain }], guard := none }, { dst := some 4, op := Op.assign (Operand.tmp 21), type := 3, pos := "sets.go:70", after := #[{ on := 16, ground := Ground.data }, { on := 16, ground := Ground.chain }, { on := 0, ground := Ground.phase }, { on := 1, ground := Ground.phase }, { on := 2, ground := Ground.phase }, { on := 3, ground := Ground.phase }, { on := 4, ground := Ground.phase }, { on := 5, ground := Ground.phase }, { on := 6, ground := Ground.phase }, { on := 7, ground := Ground.phase }, { on := 8, ground := Ground.phase }, { on := 9, ground := Ground.phase }, { on := 10, ground := Ground.phase }, { on := 11, ground := Ground.phase }, { on := 12, ground := Ground.phase }, { on := 13, ground := Ground.phase }, { on := 14, ground := Ground.phase }, { on := 15, ground := Ground.phase }, { on := 16, ground := Ground.phase }], guard := none }] Q i (fun a' w' => ∃ v1x0 v1x1 v1x2 v1x3 v1x4 v1x5 v1x6 v1x7 v1x8 v1x9 v1x10 v1x11 v1x12 v1x13 v1x14 v1x15 v1x16 v1x17, a' = { tmps := #[SV sx, SV sy, ptr w.heap.size, ptr (w.heap.size + 1), v1x17, v1x0, v1x1, v1x2, v1x3, v1x4, v1x5, v1x6, v1x7, v1x8, v1x9, v1x10, v1x11, v1x12, v1x13, v1x14, v1x15, v1x16], defers := [] } ∧ BI 18 25 wk (PhC sx sy w wk) [] [] [] (l.setIfInBounds i true) w' [v1x0, v1x1, v1x2, v1x3, v1x4, v1x5, v1x6, v1x7, v1x8, v1x9, v1x10, v1x11, v1x12, v1x13, v1x14, v1x15, v1x16, v1x17]) x W := by
  rintro l x W ⟨v1x0, v1x1, v1x2, v1x3, v1x4, v1x5, v1x6, v1x7, v1x8, v1x9, v1x10, v1x11, v1x12, v1x13, v1x14, v1x15, v1x16, v1x17, rfl, T⟩ i hi
  obtain ⟨hi1, hi2, hi3⟩ := ready_mem hi
  have hi4 := no_true hi2
  have hc : i = 0 ∨ i = 1 ∨ i = 2 ∨ i = 3 ∨ i = 4 ∨ i = 5 ∨ i = 6 ∨ i = 7 ∨ i = 8 ∨ i = 9 ∨ i = 10 ∨ i = 11 ∨ i = 12 ∨ i = 13 ∨ i = 14 ∨ i = 15 ∨ i = 16 ∨ i = 17 := by have h : i < 18 := hi1; omega
  have HT := hide T
  clear T
  rcases hc with rfl | rfl | rfl | rfl | rfl | rfl | rfl | rfl | rfl | rfl | rfl | rfl | rfl | rfl | rfl | rfl | rfl | rfl
  · have HL := hide hi4
    clear hi hi1 hi2 hi3 hi4
    refine wpOp_step (o := { dst := some 5, op := Op.fieldAddr 55 (Operand.tmp 2) 0, type := 0, pos := "sets.go:70", after := #[], guard := none }) rfl (fun K hK => ?_)
    go_simp
    exact hK _ _ ⟨.pointer (some ⟨w.heap.size, 0, none⟩), v1x1, v1x2, v1x3, v1x4, v1x5, v1x6, v1x7, v1x8, v1x9, v1x10, v1x11, v1x12, v1x13, v1x14, v1x15, v1x16, v1x17, rfl, HT.out.plain (PhC_mono sx sy w wk) (Below.refl _ _) 0 (by decide) HL.out _ rfl (by simp) (by simp) (by decide)⟩
  · have d0 := hi3 _ rfl { on := 0, ground := Ground.data } (by simp) rfl
    have e0 : v1x0 = .pointer (some ⟨w.heap.size, 0, none⟩) := HT.out.h 0 (by decide) d0 (fun hm => absurd hm (by decide))
    subst e0
    have HL := hide hi4
    clear hi hi1 hi2 hi3 hi4 d0
    have c1 := (HX.out.below HT.out.b).at.1
    refine wpOp_step (o := { dst := some 6, op := Op.load 3 (Operand.tmp 5), type := 3, pos := "sets.go:70", after := #[{ on := 0, ground := Ground.data }], guard := none }) rfl (fun K hK => ?_)
    go_simp
    exact hK _ _ ⟨_, .int .i64 sx.rep, v1x2, v1x3, v1x4, v1x5, v1x6, v1x7, v1x8, v1x9, v1x10, v1x11, v1x12, v1x13, v1x14, v1x15, v1x16, v1x17, rfl, HT.out.plain (PhC_mono sx sy w wk) (Below.refl _ _) 1 (by decide) HL.out _ rfl (by simp) (by simp) (by decide)⟩
  · have HL := hide hi4
    clear hi hi1 hi2 hi3 hi4
    refine wpOp_step (o := { dst := some 7, op := Op.fieldAddr 55 (Operand.tmp 3) 0, type := 0, pos := "sets.go:70", after := #[], guard := none }) rfl (fun K hK => ?_)
    go_simp
    exact hK _ _ ⟨v1x0, v1x1, .pointer (some ⟨w.heap.size + 1, 0, none⟩), v1x3, v1x4, v1x5, v1x6, v1x7, v1x8, v1x9, v1x10, v1x11, v1x12, v1x13, v1x14, v1x15, v1x16, v1x17, rfl, HT.out.plain (PhC_mono sx sy w wk) (Below.refl _ _) 2 (by decide) HL.out _ rfl (by simp) (by simp) (by decide)⟩
  · have d2 := hi3 _ rfl { on := 2, ground := Ground.data } (by simp) rfl
    have e2 : v1x2 = .pointer (some ⟨w.heap.size + 1, 0, none⟩) := HT.out.h 2 (by decide) d2 (fun hm => absurd hm (by decide))
    subst e2
    have HL := hide hi4
    clear hi hi1 hi2 hi3 hi4 d2
    have c1 := (HY.out.below HT.out.b).at.1
    refine wpOp_step (o := { dst := some 8, op := Op.load 3 (Operand.tmp 7), type := 3, pos := "sets.go:70", after := #[{ on := 2, ground := Ground.data }], guard := none }) rfl (fun K hK => ?_)
    go_simp
    exact hK _ _ ⟨v1x0, v1x1, _, .int .i64 sy.rep, v1x4, v1x5, v1x6, v1x7, v1x8, v1x9, v1x10, v1x11, v1x12, v1x13, v1x14, v1x15, v1x16, v1x17, rfl, HT.out.plain (PhC_mono sx sy w wk) (Below.refl _ _) 3 (by decide) HL.out _ rfl (by simp) (by simp) (by decide)⟩
  · have d1 := hi3 _ rfl { on := 1, ground := Ground.data } (by simp) rfl
    have d3 := hi3 _ rfl { on := 3, ground := Ground.data } (by simp) rfl
    have e1 : v1x1 = .int .i64 sx.rep := HT.out.h 1 (by decide) d1 (fun hm => absurd hm (by decide))
    subst e1
    have e3 : v1x3 = .int .i64 sy.rep := HT.out.h 3 (by decide) d3 (fun hm => absurd hm (by decide))
    subst e3
    have HL := hide hi4
    clear hi hi1 hi2 hi3 hi4 d1 d3
    refine wpOp_step (o := { dst := some 9, op := Op.call { callee := Callee.value (Operand.func 68), args := #[Operand.tmp 6, Operand.tmp 8], argTypes := #[3, 3] }, type := 3, pos := "sets.go:70", after := #[{ on := 1, ground := Ground.data }, { on := 3, ground := Ground.data }], guard := none }) rfl (fun K hK => ?_)
    go_simp
    go_wp2_with fail
    refine (cmp_below sx.rep sy.rep _).mono ?_
    rintro e w' ⟨rfl, pb⟩
    exact hK _ _ ⟨v1x0, _, v1x2, _, .int .i64 (cmpI sx.rep sy.rep), v1x5, v1x6, v1x7, v1x8, v1x9, v1x10, v1x11, v1x12, v1x13, v1x14, v1x15, v1x16, v1x17, rfl, HT.out.plain (PhC_mono sx sy w wk) pb 4 (by decide) HL.out _ rfl (by simp) (by simp) (by decide)⟩
  · have HL := hide hi4
    clear hi hi1 hi2 hi3 hi4
    refine wpOp_step (o := { dst := some 10, op := Op.fieldAddr 55 (Operand.tmp 2) 1, type := 0, pos := "sets.go:70", after := #[], guard := none }) rfl (fun K hK => ?_)
    go_simp
    exact hK _ _ ⟨v1x0, v1x1, v1x2, v1x3, v1x4, .pointer (some ⟨w.heap.size, 1, none⟩), v1x6, v1x7, v1x8, v1x9, v1x10, v1x11, v1x12, v1x13, v1x14, v1x15, v1x16, v1x17, rfl, HT.out.plain (PhC_mono sx sy w wk) (Below.refl _ _) 5 (by decide) HL.out _ rfl (by simp) (by simp) (by decide)⟩
  · have d5 := hi3 _ rfl { on := 5, ground := Ground.data } (by simp) rfl
    have e5 : v1x5 = .pointer (some ⟨w.heap.size, 1, none⟩) := HT.out.h 5 (by decide) d5 (fun hm => absurd hm (by decide))
    subst e5
    have HL := hide hi4
    clear hi hi1 hi2 hi3 hi4 d5
    have c1 := (HX.out.below HT.out.b).at.2.1
    refine wpOp_step (o := { dst := some 11, op := Op.load 3 (Operand.tmp 10), type := 3, pos := "sets.go:70", after := #[{ on := 5, ground := Ground.data }], guard := none }) rfl (fun K hK => ?_)
    go_simp
    exact hK _ _ ⟨v1x0, v1x1, v1x2, v1x3, v1x4, _, .int .i64 sx.lo, v1x7, v1x8, v1x9, v1x10, v1x11, v1x12, v1x13, v1x14, v1x15, v1x16, v1x17, rfl, HT.out.plain (PhC_mono sx sy w wk) (Below.refl _ _) 6 (by decide) HL.out _ rfl (by simp) (by simp) (by decide)⟩
  · have HL := hide hi4
    clear hi hi1 hi2 hi3 hi4
    refine wpOp_step (o := { dst := some 12, op := Op.fieldAddr 55 (Operand.tmp 3) 1, type := 0, pos := "sets.go:70", after := #[], guard := none }) rfl (fun K hK => ?_)
    go_simp
    exact hK _ _ ⟨v1x0, v1x1, v1x2, v1x3, v1x4, v1x5, v1x6, .pointer (some ⟨w.heap.size + 1, 1, none⟩), v1x8, v1x9, v1x10, v1x11, v1x12, v1x13, v1x14, v1x15, v1x16, v1x17, rfl, HT.out.plain (PhC_mono sx sy w wk) (Below.refl _ _) 7 (by decide) HL.out _ rfl (by simp) (by simp) (by decide)⟩
  · have d7 := hi3 _ rfl { on := 7, ground := Ground.data } (by simp) rfl
    have e7 : v1x7 = .pointer (some ⟨w.heap.size + 1, 1, none⟩) := HT.out.h 7 (by decide) d7 (fun hm => absurd hm (by decide))
    subst e7
    have HL := hide hi4
    clear hi hi1 hi2 hi3 hi4 d7
    have c1 := (HY.out.below HT.out.b).at.2.1
    refine wpOp_step (o := { dst := some 13, op := Op.load 3 (Operand.tmp 12), type := 3, pos := "sets.go:70", after := #[{ on := 7, ground := Ground.data }], guard := none }) rfl (fun K hK => ?_)
    go_simp
    exact hK _ _ ⟨v1x0, v1x1, v1x2, v1x3, v1x4, v1x5, v1x6, _, .int .i64 sy.lo, v1x9, v1x10, v1x11, v1x12, v1x13, v1x14, v1x15, v1x16, v1x17, rfl, HT.out.plain (PhC_mono sx sy w wk) (Below.refl _ _) 8 (by decide) HL.out _ rfl (by simp) (by simp) (by decide)⟩
  · have d6 := hi3 _ rfl { on := 6, ground := Ground.data } (by simp) rfl
    have d8 := hi3 _ rfl { on := 8, ground := Ground.data } (by simp) rfl
    have e6 : v1x6 = .int .i64 sx.lo := HT.out.h 6 (by decide) d6 (fun hm => absurd hm (by decide))
    subst e6
    have e8 : v1x8 = .int .i64 sy.lo := HT.out.h 8 (by decide) d8 (fun hm => absurd hm (by decide))
    subst e8
    have HL := hide hi4
    clear hi hi1 hi2 hi3 hi4 d6 d8
    refine wpOp_step (o := { dst := some 14, op := Op.call { callee := Callee.value (Operand.func 68), args := #[Operand.tmp 11, Operand.tmp 13], argTypes := #[3, 3] }, type := 3, pos := "sets.go:70", after := #[{ on := 6, ground := Ground.data }, { on := 8, ground := Ground.data }, { on := 4, ground := Ground.chain }], guard := none }) rfl (fun K hK => ?_)
    go_simp
    go_wp2_with fail
    refine (cmp_below sx.lo sy.lo _).mono ?_
    rintro e w' ⟨rfl, pb⟩
    exact hK _ _ ⟨v1x0, v1x1, v1x2, v1x3, v1x4, v1x5, _, v1x7, _, .int .i64 (cmpI sx.lo sy.lo), v1x10, v1x11, v1x12, v1x13, v1x14, v1x15, v1x16, v1x17, rfl, HT.out.plain (PhC_mono sx sy w wk) pb 9 (by decide) HL.out _ rfl (by simp) (by simp) (by decide)⟩
  · have HL := hide hi4
    clear hi hi1 hi2 hi3 hi4
    refine wpOp_step (o := { dst := some 15, op := Op.fieldAddr 55 (Operand.tmp 2) 2, type := 0, pos := "sets.go:70", after := #[], guard := none }) rfl (fun K hK => ?_)
    go_simp
    exact hK _ _ ⟨v1x0, v1x1, v1x2, v1x3, v1x4, v1x5, v1x6, v1x7, v1x8, v1x9, .pointer (some ⟨w.heap.size, 2, none⟩), v1x11, v1x12, v1x13, v1x14, v1x15, v1x16, v1x17, rfl, HT.out.plain (PhC_mono sx sy w wk) (Below.refl _ _) 10 (by decide) HL.out _ rfl (by simp) (by simp) (by decide)⟩
  · have d10 := hi3 _ rfl { on := 10, ground := Ground.data } (by simp) rfl
    have e10 : v1x10 = .pointer (some ⟨w.heap.size, 2, none⟩) := HT.out.h 10 (by decide) d10 (fun hm => absurd hm (by decide))
    subst e10
    have HL := hide hi4
    clear hi hi1 hi2 hi3 hi4 d10
    have c1 := (HX.out.below HT.out.b).at.2.2
    refine wpOp_step (o := { dst := some 16, op := Op.load 3 (Operand.tmp 15), type := 3, pos := "sets.go:70", after := #[{ on := 10, ground := Ground.data }], guard := none }) rfl (fun K hK => ?_)
    go_simp
    exact hK _ _ ⟨v1x0, v1x1, v1x2, v1x3, v1x4, v1x5, v1x6, v1x7, v1x8, v1x9, _, .int .i64 sx.hi, v1x12, v1x13, v1x14, v1x15, v1x16, v1x17, rfl, HT.out.plain (PhC_mono sx sy w wk) (Below.refl _ _) 11 (by decide) HL.out _ rfl (by simp) (by simp) (by decide)⟩
  · have HL := hide hi4
    clear hi hi1 hi2 hi3 hi4
    refine wpOp_step (o := { dst := some 17, op := Op.fieldAddr 55 (Operand.tmp 3) 2, type := 0, pos := "sets.go:70", after := #[], guard := none }) rfl (fun K hK => ?_)
    go_simp
    exact hK _ _ ⟨v1x0, v1x1, v1x2, v1x3, v1x4, v1x5, v1x6, v1x7, v1x8, v1x9, v1x10, v1x11, .pointer (some ⟨w.heap.size + 1, 2, none⟩), v1x13, v1x14, v1x15, v1x16, v1x17, rfl, HT.out.plain (PhC_mono sx sy w wk) (Below.refl _ _) 12 (by decide) HL.out _ rfl (by simp) (by simp) (by decide)⟩
  · have d12 := hi3 _ rfl { on := 12, ground := Ground.data } (by simp) rfl
    have e12 : v1x12 = .pointer (some ⟨w.heap.size + 1, 2, none⟩) := HT.out.h 12 (by decide) d12 (fun hm => absurd hm (by decide))
    subst e12
    have HL := hide hi4
    clear hi hi1 hi2 hi3 hi4 d12
    have c1 := (HY.out.below HT.out.b).at.2.2
    refine wpOp_step (o := { dst := some 18, op := Op.load 3 (Operand.tmp 17), type := 3, pos := "sets.go:70", after := #[{ on := 12, ground := Ground.data }], guard := none }) rfl (fun K hK => ?_)
    go_simp
    exact hK _ _ ⟨v1x0, v1x1, v1x2, v1x3, v1x4, v1x5, v1x6, v1x7, v1x8, v1x9, v1x10, v1x11, _, .int .i64 sy.hi, v1x14, v1x15, v1x16, v1x17, rfl, HT.out.plain (PhC_mono sx sy w wk) (Below.refl _ _) 13 (by decide) HL.out _ rfl (by simp) (by simp) (by decide)⟩
  · have d11 := hi3 _ rfl { on := 11, ground := Ground.data } (by simp) rfl
    have d13 := hi3 _ rfl { on := 13, ground := Ground.data } (by simp) rfl
    have e11 : v1x11 = .int .i64 sx.hi := HT.out.h 11 (by decide) d11 (fun hm => absurd hm (by decide))
    subst e11
    have e13 : v1x13 = .int .i64 sy.hi := HT.out.h 13 (by decide) d13 (fun hm => absurd hm (by decide))
    subst e13
    have HL := hide hi4
    clear hi hi1 hi2 hi3 hi4 d11 d13
    refine wpOp_step (o := { dst := some 19, op := Op.call { callee := Callee.value (Operand.func 68), args := #[Operand.tmp 16, Operand.tmp 18], argTypes := #[3, 3] }, type := 3, pos := "sets.go:70", after := #[{ on := 11, ground := Ground.data }, { on := 13, ground := Ground.data }, { on := 9, ground := Ground.chain }], guard := none }) rfl (fun K hK => ?_)
    go_simp
    go_wp2_with fail
    refine (cmp_below sx.hi sy.hi _).mono ?_
    rintro e w' ⟨rfl, pb⟩
    exact hK _ _ ⟨v1x0, v1x1, v1x2, v1x3, v1x4, v1x5, v1x6, v1x7, v1x8, v1x9, v1x10, _, v1x12, _, .int .i64 (cmpI sx.hi sy.hi), v1x15, v1x16, v1x17, rfl, HT.out.plain (PhC_mono sx sy w wk) pb 14 (by decide) HL.out _ rfl (by simp) (by simp) (by decide)⟩
  · have d4 := hi3 _ rfl { on := 4, ground := Ground.data } (by simp) rfl
    have d9 := hi3 _ rfl { on := 9, ground := Ground.data } (by simp) rfl
    have d14 := hi3 _ rfl { on := 14, ground := Ground.data } (by simp) rfl
    have e4 : v1x4 = .int .i64 (cmpI sx.rep sy.rep) := HT.out.h 4 (by decide) d4 (fun hm => absurd hm (by decide))
    subst e4
    have e9 : v1x9 = .int .i64 (cmpI sx.lo sy.lo) := HT.out.h 9 (by decide) d9 (fun hm => absurd hm (by decide))
    subst e9
    have e14 : v1x14 = .int .i64 (cmpI sx.hi sy.hi) := HT.out.h 14 (by decide) d14 (fun hm => absurd hm (by decide))
    subst e14
    have HL := hide hi4
    clear hi hi1 hi2 hi3 hi4 d4 d9 d14
    refine wpOp_step (o := { dst := some 20, op := Op.buildSlice 22 3 #[(0, Operand.tmp 9), (1, Operand.tmp 14), (2, Operand.tmp 19)], type := 22, pos := "sets.go:70", after := #[{ on := 4, ground := Ground.data }, { on := 9, ground := Ground.data }, { on := 14, ground := Ground.data }], guard := none }) rfl (fun K hK => ?_)
    go_simp
    exact hK _ _ ⟨v1x0, v1x1, v1x2, v1x3, _, v1x5, v1x6, v1x7, v1x8, _, v1x10, v1x11, v1x12, v1x13, _, .slice (some ⟨W.heap.size, 0, none⟩) 3 3, v1x16, v1x17, rfl, HT.out.plain (PhC_mono sx sy w wk) (below_new _ _) 15 (by decide) HL.out _ ⟨_, rfl, vlit3 W _ _ _ _ rfl _⟩ (by simp) (by simp) (by decide)⟩
  · have d15 := hi3 _ rfl { on := 15, ground := Ground.data } (by simp) rfl
    obtain ⟨g15, e15, R15⟩ : ∃ g, v1x15 = .slice (some ⟨g, 0, none⟩) 3 3 ∧ V.Src W (some ⟨g, 0, none⟩) 3 3 [cmpI sx.rep sy.rep, cmpI sx.lo sy.lo, cmpI sx.hi sy.hi] := HT.out.h 15 (by decide) d15 (fun hm => absurd hm (by decide))
    subst e15
    have HR15 := hide R15
    clear R15
    have HL := hide hi4
    clear hi hi1 hi2 hi3 hi4 d15
    refine wpOp_step (o := { dst := some 21, op := Op.call { callee := Callee.value (Operand.func 67), args := #[Operand.tmp 20], argTypes := #[22] }, type := 3, pos := "sets.go:70", after := #[{ on := 15, ground := Ground.data }, { on := 14, ground := Ground.chain }], guard := none }) rfl (fun K hK => ?_)
    go_simp
    go_wp2_with fail
    refine (or3_any sx sy _ _ HR15.out).mono ?_
    rintro e w' ⟨rfl, pb⟩
    exact hK _ _ ⟨v1x0, v1x1, v1x2, v1x3, v1x4, v1x5, v1x6, v1x7, v1x8, v1x9, v1x10, v1x11, v1x12, v1x13, v1x14, _, .int .i64 (cmp3 sx sy), v1x17, rfl, HT.out.plain (PhC_mono sx sy w wk) pb 16 (by decide) HL.out _ rfl (by simp) (by simp) (by decide)⟩
  · have d16 := hi3 _ rfl { on := 16, ground := Ground.data } (by simp) rfl
    have e16 : v1x16 = .int .i64 (cmp3 sx sy) := HT.out.h 16 (by decide) d16 (fun hm => absurd hm (by decide))
    subst e16
    have HL := hide hi4
    clear hi hi1 hi2 hi3 hi4 d16
    refine wpOp_step (o := { dst := some 4, op := Op.assign (Operand.tmp 21), type := 3, pos := "sets.go:70", after := #[{ on := 16, ground := Ground.data }, { on := 16, ground := Ground.chain }, { on := 0, ground := Ground.phase }, { on := 1, ground := Ground.phase }, { on := 2, ground := Ground.phase }, { on := 3, ground := Ground.phase }, { on := 4, ground := Ground.phase }, { on := 5, ground := Ground.phase }, { on := 6, ground := Ground.phase }, { on := 7, ground := Ground.phase }, { on := 8, ground := Ground.phase }, { on := 9, ground := Ground.phase }, { on := 10, ground := Ground.phase }, { on := 11, ground := Ground.phase }, { on := 12, ground := Ground.phase }, { on := 13, ground := Ground.phase }, { on := 14, ground := Ground.phase }, { on := 15, ground := Ground.phase }, { on := 16, ground := Ground.phase }], guard := none }) rfl (fun K hK => ?_)
    go_simp
    exact hK _ _ ⟨v1x0, v1x1, v1x2, v1x3, v1x4, v1x5, v1x6, v1x7, v1x8, v1x9, v1x10, v1x11, v1x12, v1x13, v1x14, v1x15, _, .int .i64 (cmp3 sx sy), rfl, HT.out.plain (PhC_mono sx sy w wk) (Below.refl _ _) 17 (by decide) HL.out _ rfl (by simp) (by simp) (by decide)⟩
set_option maxRecDepth 100000 in
set_option maxHeartbeats 4000000 in
theorem compareSpans_any (sx sy : Sn) (w : World) : Calls Tryz.prog 96 #[SV sx, SV sy] w fun e w' => e = .returned (.int .i64 (cmp3 sx sy)) ∧ Below w.heap.size w w' := by
  have b1 := below_new w (.cells (SC sx) 55)
  have b2 := below_new (w.alloc (.cells (SC sx) 55)) (.cells (SC sy) 55)
  have X1 := (sbox_new w sx).below b2
  have X2 := sbox_new (w.alloc (.cells (SC sx) 55)) sy
  rw [World.size_alloc] at X2
  have HX := hide X1
  have HY := hide X2
  have HBWwk := hide (b1.trans (b2.mono b1.size))
  clear b1 b2 X1 X2
  obtain ⟨wk, hwk⟩ : ∃ wk, (w.alloc (.cells (SC sx) 55)).alloc (.cells (SC sy) 55) = wk := ⟨_, rfl⟩
  rw [hwk] at HX HY HBWwk
  go_enter Tryz.func96, Tryz.ntmps96
  go_wp2_with fail
  clear hwk
  refine wp_region_inv (by kernel_rfl) (fun l x W => ∃ v1x0 v1x1 v1x2 v1x3 v1x4 v1x5 v1x6 v1x7 v1x8 v1x9 v1x10 v1x11 v1x12 v1x13 v1x14 v1x15 v1x16 v1x17, x = { tmps := #[SV sx, SV sy, ptr w.heap.size, ptr (w.heap.size + 1), v1x17, v1x0, v1x1, v1x2, v1x3, v1x4, v1x5, v1x6, v1x7, v1x8, v1x9, v1x10, v1x11, v1x12, v1x13, v1x14, v1x15, v1x16], defers := [] } ∧ BI 18 25 wk (PhC sx sy w wk) [] [] [] l W [v1x0, v1x1, v1x2, v1x3, v1x4, v1x5, v1x6, v1x7, v1x8, v1x9, v1x10, v1x11, v1x12, v1x13, v1x14, v1x15, v1x16, v1x17]) ⟨undef, undef, undef, undef, undef, undef, undef, undef, undef, undef, undef, undef, undef, undef, undef, undef, undef, .int .i64 0, rfl, BI.start _ _ _ _ _ _ _ _ rfl⟩ ?_ ?_ ?_
  · rintro l x W ⟨v1x0, v1x1, v1x2, v1x3, v1x4, v1x5, v1x6, v1x7, v1x8, v1x9, v1x10, v1x11, v1x12, v1x13, v1x14, v1x15, v1x16, v1x17, rfl, T⟩
    exact T.sz
  · exact stC HX HY
  · rintro l x W ⟨v1x0, v1x1, v1x2, v1x3, v1x4, v1x5, v1x6, v1x7, v1x8, v1x9, v1x10, v1x11, v1x12, v1x13, v1x14, v1x15, v1x16, v1x17, rfl, T⟩ hnil
    have hall := fun i (hi : i < 18) => ready_done (by kernel_rfl) T.sz hnil i hi
    have HT := hide T
    clear T hnil
    have e0 : v1x0 = .pointer (some ⟨w.heap.size, 0, none⟩) := HT.out.h 0 (by decide) (hall 0 (by decide)) (fun hm => absurd hm (by decide))
    subst e0
    have e1 : v1x1 = .int .i64 sx.rep := HT.out.h 1 (by decide) (hall 1 (by decide)) (fun hm => absurd hm (by decide))
    subst e1
    have e2 : v1x2 = .pointer (some ⟨w.heap.size + 1, 0, none⟩) := HT.out.h 2 (by decide) (hall 2 (by decide)) (fun hm => absurd hm (by decide))
    subst e2
    have e3 : v1x3 = .int .i64 sy.rep := HT.out.h 3 (by decide) (hall 3 (by decide)) (fun hm => absurd hm (by decide))
    subst e3
    have e4 : v1x4 = .int .i64 (cmpI sx.rep sy.rep) := HT.out.h 4 (by decide) (hall 4 (by decide)) (fun hm => absurd hm (by decide))
    subst e4
    have e5 : v1x5 = .pointer (some ⟨w.heap.size, 1, none⟩) := HT.out.h 5 (by decide) (hall 5 (by decide)) (fun hm => absurd hm (by decide))
    subst e5
    have e6 : v1x6 = .int .i64 sx.lo := HT.out.h 6 (by decide) (hall 6 (by decide)) (fun hm => absurd hm (by decide))
    subst e6
    have e7 : v1x7 = .pointer (some ⟨w.heap.size + 1, 1, none⟩) := HT.out.h 7 (by decide) (hall 7 (by decide)) (fun hm => absurd hm (by decide))
    subst e7
    have e8 : v1x8 = .int .i64 sy.lo := HT.out.h 8 (by decide) (hall 8 (by decide)) (fun hm => absurd hm (by decide))
    subst e8
    have e9 : v1x9 = .int .i64 (cmpI sx.lo sy.lo) := HT.out.h 9 (by decide) (hall 9 (by decide)) (fun hm => absurd hm (by decide))
    subst e9
    have e10 : v1x10 = .pointer (some ⟨w.heap.size, 2, none⟩) := HT.out.h 10 (by decide) (hall 10 (by decide)) (fun hm => absurd hm (by decide))
    subst e10
    have e11 : v1x11 = .int .i64 sx.hi := HT.out.h 11 (by decide) (hall 11 (by decide)) (fun hm => absurd hm (by decide))
    subst e11
    have e12 : v1x12 = .pointer (some ⟨w.heap.size + 1, 2, none⟩) := HT.out.h 12 (by decide) (hall 12 (by decide)) (fun hm => absurd hm (by decide))
    subst e12
    have e13 : v1x13 = .int .i64 sy.hi := HT.out.h 13 (by decide) (hall 13 (by decide)) (fun hm => absurd hm (by decide))
    subst e13
    have e14 : v1x14 = .int .i64 (cmpI sx.hi sy.hi) := HT.out.h 14 (by decide) (hall 14 (by decide)) (fun hm => absurd hm (by decide))
    subst e14
    have e16 : v1x16 = .int .i64 (cmp3 sx sy) := HT.out.h 16 (by decide) (hall 16 (by decide)) (fun hm => absurd hm (by decide))
    subst e16
    have e17 : v1x17 = .int .i64 (cmp3 sx sy) := HT.out.h 17 (by decide) (hall 17 (by decide)) (fun hm => absurd hm (by decide))
    subst e17
    have by1 := HT.out.b
    rename World => y1
    clear hall HT l
    replace HX := hide (HX.out.below by1)
    replace HY := hide (HY.out.below by1)
    have HBWy1 := hide (HBWwk.out.trans (by1.mono HBWwk.out.size))
    clear by1
    go_wp2_with fail
    go_ret
    exact ⟨rfl, HBWy1.out⟩
set_option maxRecDepth 100000 in
set_option maxHeartbeats 4000000 in
theorem slCompareS_any (ao bo : Option Addr) (n cn m cm : Nat) (A B : List Sn) (w : World) (hA : SSrc w ao n cn A) (hB : SSrc w bo m cm B) :
    Calls Tryz.prog 95 #[.slice ao n cn, .slice bo m cm, .func (.func 96) #[] #[]] w fun e w' => e = .returned (.int .i64 (lex cmp3 A B)) ∧ Below w.heap.size w w' := by
  have HA := hide hA
  have HB := hide hB
  have HLA := hide hA.len
  have HLB := hide hB.len
  have gn := hA.big
  have gm := hB.big
  clear hA hB
  go_enter Tryz.func95, Tryz.ntmps95
  go_wp2_with fail
  go_loopw [13] (fun i wr => ∃ k : Nat, k ≤ n ∧ i = .int .i64 k ∧ Hid ((A.take k = B.take k ∧ k ≤ m) ∧ Below w.heap.size w wr)) (fun i _ => n - (intOf i).toNat)
  case atStart => exact ⟨0, Nat.zero_le _, rfl, ⟨rfl, Nat.zero_le _⟩, Below.refl _ _⟩
  case round =>
    obtain ⟨k, hk, rfl, HO⟩ := hrel
    rename World => w6
    have hkm := HO.out.1.2
    by_cases hlt : k < n
    · obtain ⟨ad, hao, ca⟩ := (HA.out.below HO.out.2).at k hlt
      subst hao
      obtain ⟨x, Hx⟩ : ∃ x, Hid (A.getD k sn0 = x) := ⟨_, rfl⟩
      rw [Hx.out] at ca
      have l1 := run_ldS ca
      obtain ⟨w7, hst, X7, b7, z7⟩ := madeS w6 x w6.heap.size rfl
      have HX7 := hide X7
      have HB7 := hide (HO.out.2.trans (b7.mono HO.out.2.size))
      clear X7 ca
      by_cases hm : k < m
      · obtain ⟨bd, hbo, cb⟩ := ((HB.out.below HO.out.2).below b7).at k hm
        subst hbo
        obtain ⟨y, Hy⟩ : ∃ y, Hid (B.getD k sn0 = y) := ⟨_, rfl⟩
        rw [Hy.out] at cb
        have l2 := run_ldS cb
        obtain ⟨w8, hst8, X8, b8, z8⟩ := madeS w7 y w7.heap.size rfl
        have HX8 := hide X8
        have HX78 := hide (HX7.out.below b8)
        obtain ⟨x0, x1, x2⟩ := HX78.out.at
        obtain ⟨y0, y1, y2⟩ := X8.at
        have l3 := run_ldS (⟨x0, x1, x2⟩ : SnAt w8 ⟨w6.heap.size, 0, none⟩ x)
        have l4 := run_ldS (⟨y0, y1, y2⟩ : SnAt w8 ⟨w7.heap.size, 0, none⟩ y)
        have HB8 := hide (HB7.out.trans (b8.mono HB7.out.size))
        have HAL : Hid (k < A.length) := by rw [HLA.out]; exact hlt
        have HBL : Hid (k < B.length) := by rw [HLB.out]; exact hm
        have hm' : ¬ (m : Int) ≤ (k : Int) := by omega
        clear X8 cb b7 b8 z7 z8 x0 x1 x2 y0 y1 y2
        have HTO : Hid (cmp3 x y = 0 → A.take (k + 1) = B.take (k + 1)) := fun h => take_on cmp3_tot sn0 HO.out.1.1 HAL.out HBL.out (by rw [Hx.out, Hy.out]; exact h)
        have HDF : Hid (¬ cmp3 x y = 0 → lex cmp3 A B = cmp3 x y) := fun h => by
          have := lex_diff cmp3_tot sn0 HO.out.1.1 HAL.out HBL.out (by rw [Hx.out, Hy.out]; exact h)
          rw [Hx.out, Hy.out] at this
          exact this
        go_wp2_with fail
        refine (compareSpans_any x y _).mono ?_
        rintro e w9 ⟨rfl, b9⟩
        have HB9 := hide (HB8.out.trans (b9.mono HB8.out.size))
        clear b9 l1 l2 l3 l4 hst hst8
        by_cases h0 : cmp3 x y = 0
        · have HN := hide (HTO.out h0)
          rw [h0]
          clear h0
          go_wp2_with fail
          go_roundw
          case rel => exact ⟨k + 1, by omega, by go_num, ⟨HN.out, by omega⟩, HB9.out⟩
          case measure => simp [intOf]; omega
        · have HN := hide (HDF.out h0)
          have h0' : (cmp3 x y != 0) = true := by simpa using h0
          clear h0
          obtain ⟨z, hz⟩ : ∃ z, cmp3 x y = z := ⟨_, rfl⟩
          rw [hz] at h0' HN ⊢
          clear hz
          go_wp2_with fail
          go_ret
          exact ⟨ret_int HN.out.symm, HB9.out⟩
      · have hm' : (m : Int) ≤ (k : Int) := by omega
        have HN := hide (lex_more cmp3_tot HO.out.1.1 (by rw [HLA.out]; exact hlt) (by rw [HLB.out]; omega))
        clear b7 z7
        go_wp2_with fail
        go_ret
        exact ⟨ret_int HN.out.symm, HB7.out⟩
    · obtain rfl : k = n := by omega
      by_cases hm : k < m
      · have hm' : (k : Int) < (m : Int) := by omega
        have HN := hide (lex_less cmp3_tot HO.out.1.1 HLA.out (by rw [HLB.out]; exact hm))
        go_wp2_with fail
        go_ret
        exact ⟨ret_int HN.out.symm, HO.out.2⟩
      · have hm' : ¬ (k : Int) < (m : Int) := by omega
        have HN := hide (lex_same cmp3_tot HO.out.1.1 HLA.out (by rw [HLB.out]; omega))
        go_wp2_with fail
        go_ret
        exact ⟨ret_int HN.out.symm, HO.out.2⟩
end Go.Proofs.YtojpjakpcihacaaGreat

namespace Go.Proofs.YtojpjakpcihacaaGreat
open Go.RowKit
attribute [local go_sem ↓] ldP_eq stP_eq
attribute [local go_sem] zero_PC cells_PV fold_PC PC_size fold_PC1

section
variable {n st : Nat} {wk : World} {Φ : Nat → Value → World → Prop} {late : List Nat} {RL : List (Nat × (Pst → Prop))} {AL : List (Nat × Nat × Nat)} {l : Array Bool} {W W' : World} {vs : List Value}
theorem BI.callF (hm : Mono Φ) (T : BI n st wk Φ late RL AL l W vs) (hb : Below W.heap.size W W') (i : Nat) (S : Pst → Prop) (hi : i < n) (hl : l.getD i false = false) (_ : (i, S) ∈ RL) (hu : ∀ x, x ∈ RL → x.1 = i → x.2 = S) (p : Pv) (hS : PSrc W' p) (hF : ∀ g, wk.heap.size ≤ g → g < W.heap.size → PFar p g) (hp : S p.P) (hΦ : ∀ v U, Φ i v U) (h2 : ∀ y, y ∈ AL → y.1 ≠ i ∧ y.2.1 ≠ i) (h3 : st ≠ i) : BI n st wk Φ late RL AL (l.setIfInBounds i true) W' (vs.set i (PV p)) := by
  have T' := T.on hm hb
  have hi' : i < vs.length := by rw [T.ln]; exact hi
  have hil : i < l.size := by rw [T.sz]; exact hi
  have st' : (l.setIfInBounds i true).getD st false = l.getD st false := set_other (fun e => h3 e.symm)
  refine ⟨by simpa using T.sz, by simpa using T.ln, T'.b, fun j hj hlj hlt => ?_, fun x hx hlx => ?_, fun y hy hly => ?_, fun y z hy hz hne hly hlz => ?_, fun y hy hls => ?_⟩
  · by_cases e : i = j
    · subst e; exact hΦ _ _
    · rw [vat_other e]; rw [set_other e] at hlj; rw [st'] at hlt; exact T'.h j hj hlj hlt
  · by_cases e : i = x.1
    · have e2 := hu x hx e.symm
      refine ⟨p, by rw [← e, vat_same hi'], hS, by rw [e2]; exact hp, fun y hy hly g eg => ?_⟩
      have hy1 : i ≠ y.1 := fun e => (h2 y hy).1 e.symm
      rw [set_other hy1] at hly
      rw [vat_other hy1] at eg
      obtain ⟨g', e', g1, g2, _⟩ := T.a y hy hly
      obtain rfl := ptr_inj (eg.symm.trans e')
      exact hF _ g1 g2
    · rw [set_other e] at hlx
      rw [vat_other e]
      obtain ⟨p', e', S', q', f⟩ := T'.r x hx hlx
      refine ⟨p', e', S', q', fun y hy hly => ?_⟩
      have hy1 : i ≠ y.1 := fun e => (h2 y hy).1 e.symm
      rw [set_other hy1] at hly
      rw [vat_other hy1]
      exact f y hy hly
  · have hy1 : i ≠ y.1 := fun e => (h2 y hy).1 e.symm
    have hy2 : i ≠ y.2.1 := fun e => (h2 y hy).2 e.symm
    rw [set_other hy1] at hly
    rw [vat_other hy1, set_other hy2]
    obtain ⟨g, e, g1, g2, g3, g4⟩ := T'.a y hy hly
    refine ⟨g, e, g1, g2, g3, fun hs => ?_⟩
    have hy3 : i ≠ y.2.2 := fun e => by
      have := (T.c y hy hs).2.1
      rw [← e, hl] at this
      cases this
    rw [vat_other hy3]
    exact g4 hs
  · have hy1 : i ≠ y.1 := fun e => (h2 y hy).1 e.symm
    have hz1 : i ≠ z.1 := fun e => (h2 z hz).1 e.symm
    rw [set_other hy1] at hly
    rw [set_other hz1] at hlz
    rw [vat_other hy1, vat_other hz1]
    exact T.d y z hy hz hne hly hlz
  · have hy1 : i ≠ y.1 := fun e => (h2 y hy).1 e.symm
    have hy2 : i ≠ y.2.1 := fun e => (h2 y hy).2 e.symm
    rw [set_other hy2] at hls
    have hc := T.c y hy hls
    rw [set_other hy1, st']
    refine ⟨hc.1, ?_, hc.2.2⟩
    by_cases e : i = y.2.2
    · rw [← e]; exact set_same hil
    · rw [set_other e]; exact hc.2.1
end
/-- a past is handed back, the very one or in new memory; old memory stands -/
def GivesF (w w' : World) (e : Ending) (p : Pv) (Q : Pst → Prop) : Prop := ∃ q : Pv, e = .returned (PV q) ∧ PSrc w' q ∧ (q = p ∨ PNew w.heap.size q) ∧ Below w.heap.size w w' ∧ Q q.P
set_option maxRecDepth 100000 in
theorem formed_any (a : Pv) (w : World) (hS : PSrc w a) : Calls Tryz.prog 93 #[PV a] w fun e w' => GivesF w w' e a (CanonOf (runsAt a.P)) := by
  have b0 := below_new w (.cells (PC a) 25)
  have b1 := below_new (w.alloc (.cells (PC a) 25)) (.cells (PC pv0) 25)
  have hp1 := pbox_new (w.alloc (.cells (PC a) 25)) pv0
  rw [World.size_alloc] at hp1
  have HXA := hide ((pbox_new w a).below b1)
  have HB1 := hide (b0.trans (b1.mono b0.size))
  have HS := hide (hS.below HB1.out)
  have HS0 := hide hS
  have HP1 := hide hp1
  clear hS b0 b1 hp1
  obtain ⟨wk, hwk⟩ : ∃ wk, (w.alloc (.cells (PC a) 25)).alloc (.cells (PC pv0) 25) = wk := ⟨_, rfl⟩
  rw [hwk] at HXA HB1 HS HP1
  have HZ : Hid (wk.heap.size = w.heap.size + 2) := by show _ = _; rw [← hwk]; simp
  have l1 := run_ldP HXA.out.at
  go_enter Tryz.func93, Tryz.ntmps93
  go_wp2_with fail
  clear hwk
  refine (isNormP_any a _ HS.out).mono ?_
  rintro e w1 ⟨b, rfl, hb, b2⟩
  have HBI := hide hb
  have HB2 := hide (HB1.out.trans (b2.mono HB1.out.size))
  have HP2 := hide (HP1.out.below b2)
  have HS2 := hide (HS.out.below b2)
  have l2 := run_ldP (HXA.out.below b2).at
  have HZ2 : Hid (w.heap.size + 2 ≤ w1.heap.size) := by have := b2.size; have h := HZ.out; show _ ≤ _; omega
  clear l1 hb b2 HXA HP1 HS HB1 HZ
  cases b with
  | true =>
    have s1 := run_stP (p' := a) HP2.out
    have HE1 : Hid (PBox (w1.setRow (w.heap.size + 1) (PC a)) (w.heap.size + 1) a) := setRow_heap _ _ _ _ _ _ HP2.out
    have HE2 : Hid (GivesF w (w1.setRow (w.heap.size + 1) (PC a)) (.returned (PV a)) a (CanonOf (runsAt a.P))) := by
      have hf := HBI.out.out.1 rfl
      exact ⟨a, rfl, HS2.out.far (PFar.old HS0.out (by omega)) (fun q hq => setRow_other _ _ _ _ hq), Or.inl rfl, below_setRow HB2.out (by omega), canon_of_chain hf.1 hf.2⟩
    go_wp2_with fail
    exact bodyPost_ret (v := PV a) (resP Tryz.results93 rfl HE1.out) rfl HE2.out
  | false =>
    go_wp2_with fail
    refine (pastNorm_any a _ HS2.out).mono ?_
    rintro e w2 ⟨p, rfl, S2, n2, b3, c2⟩
    obtain ⟨s1, e1, e2, e3, e4⟩ := past_end (w := w) (HP2.out.below b3) S2 (n2.mono (by have := HZ2.out; omega)) (HB2.out.trans (b3.mono HB2.out.size)) (by omega)
    have HE1 := hide e1
    have HE2 : Hid (GivesF w (w2.setRow (w.heap.size + 1) (PC p)) (.returned (PV p)) a (CanonOf (runsAt a.P))) := ⟨p, rfl, e2, Or.inr e3, e4, c2⟩
    clear S2 n2 b3 c2 e1 e2 e3 e4 l2
    go_wp2_with fail
    exact bodyPost_ret (v := PV p) (resP Tryz.results93 rfl HE1.out) rfl HE2.out
end Go.Proofs.YtojpjakpcihacaaGreat

namespace Go.Proofs.YtojpjakpcihacaaGreat
open Go.RowKit
attribute [local go_sem ↓] ldP_eq stP_eq
attribute [local go_sem] zero_PC cells_PV fold_PC PC_size fold_PC1

/-- a number is handed back; old memory stands -/
def GivesK (w w' : World) (e : Ending) (P : Int → Prop) : Prop := ∃ k, e = .returned (.int .i64 k) ∧ P k ∧ Below w.heap.size w w'
theorem canon_ex (G : Nat → List Rn) : ∃ P, CanonOf G P := by
  have h : ∀ r, ∃ Y, NormOf (G r) Y := fun r => norm_ex _
  exact ⟨_, fun r => Classical.choose (h r), fun r _ => Classical.choose_spec (h r), rfl⟩
/-- how the sets of the two stand in the order of pasts -/
def CmpOf (P Q : Pst) (z : Int) : Prop := ∃ X Y, CanonOf (runsAt P) X ∧ CanonOf (runsAt Q) Y ∧ z = cmpP X Y
theorem CmpOf.unique {P Q : Pst} {z z' : Int} (h : CmpOf P Q z) (h' : CmpOf P Q z') : z = z' := by
  obtain ⟨X, Y, hX, hY, rfl⟩ := h
  obtain ⟨X', Y', hX', hY', rfl⟩ := h'
  rw [hX.unique hX' (fun _ _ _ => Iff.rfl), hY.unique hY' (fun _ _ _ => Iff.rfl)]
def PhE (a b : Pv) (_ : World) (_ : World) : Nat → Value → World → Prop
  | 0, x, _ => x = PV a
  | 2, x, _ => x = PV b
  | _, _, _ => True
theorem PhE_mono (a b : Pv) (w : World) (W0 : World) : Mono (PhE a b w W0) := fun i _ _ _ h _ => match i with
  | 0 => h
  | 2 => h
  | 1 => trivial
  | 3 => trivial
  | 4 => trivial
  | 5 => trivial
  | 6 => trivial
  | 7 => trivial
  | _ + 8 => trivial
theorem PhE_inv (a b : Pv) (w : World) (W0 : World) : ∀ j x U U', j ∉ [] → PhE a b w W0 j x U → PhE a b w W0 j x U' := fun j _ _ _ _ h => match j with
  | 0 => h
  | 2 => h
  | 1 => trivial
  | 3 => trivial
  | 4 => trivial
  | 5 => trivial
  | 6 => trivial
  | 7 => trivial
  | _ + 8 => trivial
set_option maxRecDepth 100000 in
set_option maxHeartbeats 4000000 in
theorem stE {a b : Pv} {w wk : World} (HXA : Hid (PBox wk w.heap.size a)) (HXB : Hid (PBox wk (w.heap.size + 1) b)) (HA : Hid (PSrc wk a)) (HB : Hid (PSrc wk b)) {Q : Exit → Act → World → Prop} :
    ∀ (l : Array Bool) (x : Act) (W : World), (∃ v1x0 v1x1 v1x2 v1x3 v1x4 v1x5, x = { tmps := #[PV a, PV b, ptr w.heap.size, ptr (w.heap.size + 1), .int .i64 0, v1x4, v1x5, undef, v1x0, v1x1, v1x2, v1x3, undef, undef, undef, undef, undef, undef, undef, undef, undef, undef, undef, undef, undef], defers := [] } ∧ BI 8 6 wk (PhE a b w wk) [] [(1, CanonOf (runsAt a.P)), (3, CanonOf (runsAt b.P))] [(4, 6, 1), (5, 7, 3)] l W [v1x0, v1x1, v1x2, v1x3, v1x4, v1x5, undef, undef]) → ∀ i, i ∈ Region.ready .any #[{ dst := some 8, op := Op.load 25 (Operand.tmp 2), type := 25, pos := "sets.go:53", after := #[], guard := none }, { dst := some 9, op := Op.call { callee := Callee.value (Operand.func 93), args := #[Operand.tmp 8], argTypes := #[25] }, type := 25, pos := "sets.go:53", after := #[{ on := 0, ground := Ground.data }], guard := none }, { dst := some 10, op := Op.load 25 (Operand.tmp 3), type := 25, pos := "sets.go:53", after := #[], guard := none }, { dst := some 11, op := Op.call { callee := Callee.value (Operand.func 93), args := #[Operand.tmp 10], argTypes := #[25] }, type := 25, pos := "sets.go:53", after := #[{ on := 2, ground := Ground.data }, { on := 1, ground := Ground.chain }], guard := none }, { dst := some 5, op := Op.alloc 25, type := 0, pos := "sets.go:53", after := #[], guard := none }, { dst := some 6, op := Op.alloc 25, type := 0, pos := "sets.go:53", after := #[], guard := none }, { dst := none, op := Op.store 25 (Operand.tmp 5) (Operand.tmp 9), type := 0, pos := "sets.go:53", after := #[{ on := 4, ground := Ground.data }, { on := 1, ground := Ground.data }, { on := 3, ground := Ground.chain }, { on := 0, ground := Ground.phase }, { on := 1, ground := Ground.phase }, { on := 2, ground := Ground.textOnly Departure.lateStores }, { on := 3, ground := Ground.textOnly Departure.lateStoresUnsure }, { on := 4, ground := Ground.phase }, { on := 5, ground := Ground.phase }], guard := none }, { dst := none, op := Op.store 25 (Operand.tmp 6) (Operand.tmp 11), type := 0, pos := "sets.go:53", after := #[{ on := 5, ground := Ground.data }, { on := 3, ground := Ground.data }, { on := 6, ground := Ground.chain }, { on := 0, ground := Ground.phase }, { on := 1, ground := Ground.phase }, { on := 2, ground := Ground.phase }, { on := 3, ground := Ground.phase }, { on := 4, ground := Ground.phase }, { on := 5, ground := Ground.phase }, { on := 6, ground := Ground.phase }], guard := none }] l → wpOp Tryz.prog #[{ dst := some 8, op := Op.load 25 (Operand.tmp 2), type := 25, pos := "sets.go:53", after := #[], guard := none }, { dst := some 9, op := Op.call { callee := Callee.value (Operand.func 93), args := #[Operand.tmp 8], argTypes := #[25] }, type := 25, pos := "sets.go:53", after := #[{ on := 0, ground := Ground.data }], guard := none }, { dst := some 10, op := Op.load 25 (Operand.tmp 3), type := 25, pos := "sets.go:53", after := #[], guard := none }, { dst := some 11, op := Op.call { callee := Callee.value (Operand.func 93), args := #[Operand.tmp 10], argTypes := #[25] }, type := 25, pos := "sets.go:53", after := #[{ on := 2, ground := Ground.data }, { on := 1, ground := Ground.chain }], guard := none }, { dst := some 5, op := Op.alloc 25, type := 0, pos := "sets.go:53", after := #[], guard := none }, { dst := some 6, op := Op.alloc 25, type := 0, pos := "sets.go:53", after := #[], guard := none }, { dst := none, op := Op.store 25 (Operand.tmp 5) (Operand.tmp 9), type := 0, pos := "sets.go:53", after := #[{ on := 4, ground := Ground.data }, { on := 1, ground := Ground.data }, { on := 3, ground := Ground.chain }, { on := 0, ground := Ground.phase }, { on := 1, ground := Ground.phase }, { on := 2, ground := Ground.textOnly Departure.lateStores }, { on := 3, ground := Ground.textOnly Departure.lateStoresUnsure }, { on := 4, ground := Ground.phase }, { on := 5, ground := Ground.phase }], guard := none }, { dst := none, op := Op.store 25 (Operand.tmp 6) (Operand.tmp 11), type := 0, pos := "sets.go:53", after := #[{ on := 5, ground := Ground.data }, { on := 3, ground := Ground.data }, { on := 6, ground := Ground.chain }, { on := 0, ground := Ground.phase }, { on := 1, ground := Ground.phase }, { on := 2, ground := Ground.phase }, { on := 3, ground := Ground.phase }, { on := 4, ground := Ground.phase }, { on := 5, ground := Ground.phase }, { on := 6, ground := Ground.phase }], guard := none }] Q i (fun a' w' => ∃ v1x0 v1x1 v1x2 v1x3 v1x4 v1x5, a' = { tmps := #[PV a, PV b, ptr w.heap.size, ptr (w.heap.size + 1), .int .i64 0, v1x4, v1x5, undef, v1x0, v1x1, v1x2, v1x3, undef, undef, undef, undef, undef, undef, undef, undef, undef, undef, undef, undef, undef], defers := [] } ∧ BI 8 6 wk (PhE a b w wk) [] [(1, CanonOf (runsAt a.P)), (3, CanonOf (runsAt b.P))] [(4, 6, 1), (5, 7, 3)] (l.setIfInBounds i true) w' [v1x0, v1x1, v1x2, v1x3, v1x4, v1x5, undef, undef]) x W := by
  rintro l x W ⟨v1x0, v1x1, v1x2, v1x3, v1x4, v1x5, rfl, T⟩ i hi
  obtain ⟨hi1, hi2, hi3⟩ := ready_mem hi
  have hi4 := no_true hi2
  have hc : i = 0 ∨ i = 1 ∨ i = 2 ∨ i = 3 ∨ i = 4 ∨ i = 5 ∨ i = 6 ∨ i = 7 := by have h : i < 8 := hi1; omega
  have HT := hide T
  clear T
  rcases hc with rfl | rfl | rfl | rfl | rfl | rfl | rfl | rfl
  · have HL := hide hi4
    clear hi hi1 hi2 hi3 hi4
    have l1 := run_ldP (HXA.out.below HT.out.b).at
    refine wpOp_step (o := { dst := some 8, op := Op.load 25 (Operand.tmp 2), type := 25, pos := "sets.go:53", after := #[], guard := none }) rfl (fun K hK => ?_)
    go_simp
    exact hK _ _ ⟨PV a, v1x1, v1x2, v1x3, v1x4, v1x5, rfl, HT.out.plain (PhE_mono a b w wk) (Below.refl _ _) 0 (by decide) HL.out _ rfl (by simp) (by simp) (by decide)⟩
  · have d0 := hi3 _ rfl { on := 0, ground := Ground.data } (by simp) rfl
    have e0 : v1x0 = PV a := HT.out.h 0 (by decide) d0 (fun hm => absurd hm (by decide))
    subst e0
    have HL := hide hi4
    clear hi hi1 hi2 hi3 hi4 d0
    refine wpOp_step (o := { dst := some 9, op := Op.call { callee := Callee.value (Operand.func 93), args := #[Operand.tmp 8], argTypes := #[25] }, type := 25, pos := "sets.go:53", after := #[{ on := 0, ground := Ground.data }], guard := none }) rfl (fun K hK => ?_)
    go_simp
    go_wp2_with fail
    refine (formed_any a _ (HA.out.below HT.out.b)).mono ?_
    rintro e w' ⟨pp, rfl, pS, pN, pb, pq⟩
    exact hK _ _ ⟨_, PV pp, v1x2, v1x3, v1x4, v1x5, rfl, HT.out.callF (PhE_mono a b w wk) pb 1 (CanonOf (runsAt a.P)) (by decide) HL.out (by simp) (by simp) pp pS (fun g h1 h2 => pN.elim (fun e => by rw [e]; exact PFar.old HA.out h1) (fun h => PFar.new h h2)) (pq) (fun _ _ => trivial) (by simp) (by decide)⟩
  · have HL := hide hi4
    clear hi hi1 hi2 hi3 hi4
    have l1 := run_ldP (HXB.out.below HT.out.b).at
    refine wpOp_step (o := { dst := some 10, op := Op.load 25 (Operand.tmp 3), type := 25, pos := "sets.go:53", after := #[], guard := none }) rfl (fun K hK => ?_)
    go_simp
    exact hK _ _ ⟨v1x0, v1x1, PV b, v1x3, v1x4, v1x5, rfl, HT.out.plain (PhE_mono a b w wk) (Below.refl _ _) 2 (by decide) HL.out _ rfl (by simp) (by simp) (by decide)⟩
  · have d2 := hi3 _ rfl { on := 2, ground := Ground.data } (by simp) rfl
    have e2 : v1x2 = PV b := HT.out.h 2 (by decide) d2 (fun hm => absurd hm (by decide))
    subst e2
    have HL := hide hi4
    clear hi hi1 hi2 hi3 hi4 d2
    refine wpOp_step (o := { dst := some 11, op := Op.call { callee := Callee.value (Operand.func 93), args := #[Operand.tmp 10], argTypes := #[25] }, type := 25, pos := "sets.go:53", after := #[{ on := 2, ground := Ground.data }, { on := 1, ground := Ground.chain }], guard := none }) rfl (fun K hK => ?_)
    go_simp
    go_wp2_with fail
    refine (formed_any b _ (HB.out.below HT.out.b)).mono ?_
    rintro e w' ⟨pp, rfl, pS, pN, pb, pq⟩
    exact hK _ _ ⟨v1x0, v1x1, _, PV pp, v1x4, v1x5, rfl, HT.out.callF (PhE_mono a b w wk) pb 3 (CanonOf (runsAt b.P)) (by decide) HL.out (by simp) (by simp) pp pS (fun g h1 h2 => pN.elim (fun e => by rw [e]; exact PFar.old HB.out h1) (fun h => PFar.new h h2)) (pq) (fun _ _ => trivial) (by simp) (by decide)⟩
  · have HL := hide hi4
    clear hi hi1 hi2 hi3 hi4
    refine wpOp_step (o := { dst := some 5, op := Op.alloc 25, type := 0, pos := "sets.go:53", after := #[], guard := none }) rfl (fun K hK => ?_)
    go_simp
    exact hK _ _ ⟨v1x0, v1x1, v1x2, v1x3, ptr W.heap.size, v1x5, rfl, HT.out.make (PhE_mono a b w wk) 4 6 1 (by decide) HL.out (by simp) (by simp) (by simp) (by simp) (fun _ _ => trivial) (by decide)⟩
  · have HL := hide hi4
    clear hi hi1 hi2 hi3 hi4
    refine wpOp_step (o := { dst := some 6, op := Op.alloc 25, type := 0, pos := "sets.go:53", after := #[], guard := none }) rfl (fun K hK => ?_)
    go_simp
    exact hK _ _ ⟨v1x0, v1x1, v1x2, v1x3, v1x4, ptr W.heap.size, rfl, HT.out.make (PhE_mono a b w wk) 5 7 3 (by decide) HL.out (by simp) (by simp) (by simp) (by simp) (fun _ _ => trivial) (by decide)⟩
  · have da := hi3 _ rfl { on := 4, ground := Ground.data } (by simp) rfl
    have dc := hi3 _ rfl { on := 1, ground := Ground.data } (by simp) rfl
    obtain ⟨pc, ec, -, -, -⟩ := HT.out.r (1, CanonOf (runsAt a.P)) (by simp) dc
    obtain ⟨g, eg, PB, T2⟩ := HT.out.fill 4 6 1 pc (by decide) hi4 (by simp) (by simp) (by simp) da dc (Or.inl rfl) ec (by simp) (by simp) (PhE_inv a b w wk) (fun _ _ => trivial) undef
    have fg : v1x4 = ptr g := eg
    have fc : v1x1 = PV pc := ec
    subst fg fc
    have s1 := run_stP (p' := pc) PB
    have HT2 := hide T2
    clear T2 PB eg ec da dc HT hi hi1 hi2 hi3 hi4
    refine wpOp_step (o := { dst := none, op := Op.store 25 (Operand.tmp 5) (Operand.tmp 9), type := 0, pos := "sets.go:53", after := #[{ on := 4, ground := Ground.data }, { on := 1, ground := Ground.data }, { on := 3, ground := Ground.chain }, { on := 0, ground := Ground.phase }, { on := 1, ground := Ground.phase }, { on := 2, ground := Ground.textOnly Departure.lateStores }, { on := 3, ground := Ground.textOnly Departure.lateStoresUnsure }, { on := 4, ground := Ground.phase }, { on := 5, ground := Ground.phase }], guard := none }) rfl (fun K hK => ?_)
    go_simp
    exact hK _ _ ⟨v1x0, _, v1x2, v1x3, _, v1x5, rfl, HT2.out⟩
  · have da := hi3 _ rfl { on := 5, ground := Ground.data } (by simp) rfl
    have dc := hi3 _ rfl { on := 3, ground := Ground.data } (by simp) rfl
    have dt := hi3 _ rfl { on := 6, ground := Ground.chain } (by simp) rfl
    obtain ⟨pc, ec, -, -, -⟩ := HT.out.r (3, CanonOf (runsAt b.P)) (by simp) dc
    obtain ⟨g, eg, PB, T2⟩ := HT.out.fill 5 7 3 pc (by decide) hi4 (by simp) (by simp) (by simp) da dc (Or.inr dt) ec (by simp) (by simp) (PhE_inv a b w wk) (fun _ _ => trivial) undef
    have fg : v1x5 = ptr g := eg
    have fc : v1x3 = PV pc := ec
    subst fg fc
    have s1 := run_stP (p' := pc) PB
    have HT2 := hide T2
    clear T2 PB eg ec da dc dt HT hi hi1 hi2 hi3 hi4
    refine wpOp_step (o := { dst := none, op := Op.store 25 (Operand.tmp 6) (Operand.tmp 11), type := 0, pos := "sets.go:53", after := #[{ on := 5, ground := Ground.data }, { on := 3, ground := Ground.data }, { on := 6, ground := Ground.chain }, { on := 0, ground := Ground.phase }, { on := 1, ground := Ground.phase }, { on := 2, ground := Ground.phase }, { on := 3, ground := Ground.phase }, { on := 4, ground := Ground.phase }, { on := 5, ground := Ground.phase }, { on := 6, ground := Ground.phase }], guard := none }) rfl (fun K hK => ?_)
    go_simp
    exact hK _ _ ⟨v1x0, v1x1, v1x2, _, v1x4, _, rfl, HT2.out⟩
set_option maxRecDepth 100000 in
set_option maxHeartbeats 4000000 in
theorem pastCompare_any (a b : Pv) (w : World) (hA : PSrc w a) (hB : PSrc w b) : Calls Tryz.prog 71 #[PV a, PV b] w fun e w' => GivesK w w' e (CmpOf a.P b.P) := by
  have b1 := below_new w (.cells (PC a) 25)
  have b2 := below_new (w.alloc (.cells (PC a) 25)) (.cells (PC b) 25)
  have p2 := pbox_new (w.alloc (.cells (PC a) 25)) b
  rw [World.size_alloc] at p2
  have HXA := hide ((pbox_new w a).below b2)
  have HXB := hide p2
  have HBWwk := hide (b1.trans (b2.mono b1.size))
  have HA := hide (hA.below HBWwk.out)
  have HB := hide (hB.below HBWwk.out)
  clear b1 b2 p2 hA hB
  obtain ⟨wk, hwk⟩ : ∃ wk, (w.alloc (.cells (PC a) 25)).alloc (.cells (PC b) 25) = wk := ⟨_, rfl⟩
  rw [hwk] at HXA HXB HBWwk HA HB
  go_enter Tryz.func71, Tryz.ntmps71
  go_wp2_with fail
  clear hwk
  refine wp_region_inv (by kernel_rfl) (fun l x W => ∃ v1x0 v1x1 v1x2 v1x3 v1x4 v1x5, x = { tmps := #[PV a, PV b, ptr w.heap.size, ptr (w.heap.size + 1), .int .i64 0, v1x4, v1x5, undef, v1x0, v1x1, v1x2, v1x3, undef, undef, undef, undef, undef, undef, undef, undef, undef, undef, undef, undef, undef], defers := [] } ∧ BI 8 6 wk (PhE a b w wk) [] [(1, CanonOf (runsAt a.P)), (3, CanonOf (runsAt b.P))] [(4, 6, 1), (5, 7, 3)] l W [v1x0, v1x1, v1x2, v1x3, v1x4, v1x5, undef, undef]) ⟨undef, undef, undef, undef, undef, undef, rfl, BI.start _ _ _ _ _ _ _ _ rfl⟩ ?_ ?_ ?_
  · rintro l x W ⟨v1x0, v1x1, v1x2, v1x3, v1x4, v1x5, rfl, T⟩
    exact T.sz
  · exact stE HXA HXB HA HB
  · rintro l x W ⟨v1x0, v1x1, v1x2, v1x3, v1x4, v1x5, rfl, T⟩ hnil
    have hall := fun i (hi : i < 8) => ready_done (by kernel_rfl) T.sz hnil i hi
    have HT := hide T
    clear T hnil
    have e0 : v1x0 = PV a := HT.out.h 0 (by decide) (hall 0 (by decide)) (fun hm => absurd hm (by decide))
    subst e0
    obtain ⟨qa, e1, Sqa, qqa, -⟩ := HT.out.r (1, CanonOf (runsAt a.P)) (by simp) (hall 1 (by decide))
    have f1 : v1x1 = PV qa := e1
    subst f1
    have HSqa := hide Sqa
    have HQqa : Hid (CanonOf (runsAt a.P) qa.P) := qqa
    clear e1 Sqa qqa
    have e2 : v1x2 = PV b := HT.out.h 2 (by decide) (hall 2 (by decide)) (fun hm => absurd hm (by decide))
    subst e2
    obtain ⟨qb, e3, Sqb, qqb, -⟩ := HT.out.r (3, CanonOf (runsAt b.P)) (by simp) (hall 3 (by decide))
    have f3 : v1x3 = PV qb := e3
    subst f3
    have HSqb := hide Sqb
    have HQqb : Hid (CanonOf (runsAt b.P) qb.P) := qqb
    clear e3 Sqb qqb
    obtain ⟨ga, e4, -, -, -, k4⟩ := HT.out.a (4, 6, 1) (by simp) (hall 4 (by decide))
    have HXga : Hid (PBox W ga qa) := k4 (hall 6 (by decide)) qa rfl
    have f4 : v1x4 = ptr ga := e4
    subst f4
    clear e4 k4
    obtain ⟨gb, e5, -, -, -, k5⟩ := HT.out.a (5, 7, 3) (by simp) (hall 5 (by decide))
    have HXgb : Hid (PBox W gb qb) := k5 (hall 7 (by decide)) qb rfl
    have f5 : v1x5 = ptr gb := e5
    subst f5
    clear e5 k5
    have by1 := HT.out.b
    rename World => y1
    clear hall HT l
    replace HXA := hide (HXA.out.below by1)
    replace HXB := hide (HXB.out.below by1)
    replace HA := hide (HA.out.below by1)
    replace HB := hide (HB.out.below by1)
    have HBWy1 := hide (HBWwk.out.trans (by1.mono HBWwk.out.size))
    clear by1
    obtain ⟨va, ca⟩ := HXga.out.nums
    obtain ⟨vb, cb⟩ := HXgb.out.nums
    have HC : Hid (CmpOf a.P b.P (cmpP qa.P qb.P)) := ⟨qa.P, qb.P, HQqa.out, HQqb.out, rfl⟩
    go_wp2_with fail
    refine (slCompare_any _ _ _ _ _ _ qa.P.vec qb.P.vec _ HSqa.out.vec HSqb.out.vec HSqa.out.big HSqb.out.big).mono ?_
    rintro e z1 ⟨rfl, bz1⟩
    have ca' := (bz1.cell (World.block_lt_of_cell? _ _ ca)).trans ca
    have cb' := (bz1.cell (World.block_lt_of_cell? _ _ cb)).trans cb
    have HBz := hide (HBWy1.out.trans (bz1.mono HBWy1.out.size))
    have HCA := hide (HSqa.out.below bz1).cloud
    have HCC := hide (HSqb.out.below bz1).cloud
    clear va vb ca cb bz1
    by_cases h0 : lex cmpI qa.P.vec qb.P.vec = 0
    · have HE : Hid (cmpP qa.P qb.P = lex cmp3 qa.P.cloud qb.P.cloud) := by show _ = _; unfold cmpP; rw [if_pos h0]
      rw [h0]
      clear h0
      go_wp2_with fail
      refine (slCompareS_any _ _ _ _ _ _ qa.P.cloud qb.P.cloud _ HCA.out HCC.out).mono ?_
      rintro e z2 ⟨rfl, bz2⟩
      have HBE := hide (HBz.out.trans (bz2.mono HBz.out.size))
      rw [← HE.out]
      generalize cmpP qa.P qb.P = z at HC ⊢
      clear HE bz2 ca' cb'
      go_wp2_with fail
      go_ret
      exact ⟨z, rfl, HC.out, HBE.out⟩
    · have HE : Hid (cmpP qa.P qb.P = lex cmpI qa.P.vec qb.P.vec) := by show _ = _; unfold cmpP; rw [if_neg h0]
      rw [← HE.out] at h0 ⊢
      generalize cmpP qa.P qb.P = z at HC h0 ⊢
      have h0' : (z != 0) = true := by simpa using h0
      clear HE h0
      go_wp2_with fail
      go_ret
      exact ⟨z, rfl, HC.out, HBz.out⟩
end Go.Proofs.YtojpjakpcihacaaGreat

namespace Go.Proofs.YtojpjakpcihacaaGreat
open Go.RowKit
variable {w w' : World} {g : Nat}
structure RecV where
  sku : ByteArray
  veco : Option Addr
  vecn : Nat
  vecc : Nat
  cloudo : Option Addr
  cloudn : Nat
  cloudc : Nat
def re0 : RecV := ⟨⟨#[]⟩, none, 0, 0, none, 0, 0⟩
def ReC (m : RecV) : Array Value := #[.string m.sku, .slice m.veco m.vecn m.vecc, .slice m.cloudo m.cloudn m.cloudc]
abbrev ReV (m : RecV) : Value := .agg (ReC m)
theorem ReC_size (m : RecV) : (ReC m).size = 3 := rfl
theorem ReC_one (m : RecV) : ∀ v ∈ (ReC m).toList, v.oneCell' = true := by
  intro v hv; simp [ReC] at hv; rcases hv with rfl | rfl | rfl <;> rfl
theorem cells_ReV (m : RecV) : (ReV m).cells = ReC m := by simp [Value.cells]
structure ReAt (w : World) (a : Addr) (m : RecV) : Prop where
  c0 : w.cell? a = some (.string m.sku)
  c1 : w.cell? (a.add 1) = some (.slice m.veco m.vecn m.vecc)
  c2 : w.cell? (a.add 2) = some (.slice m.cloudo m.cloudn m.cloudc)
theorem ReAt.on {a : Addr} {m : RecV} (S : ReAt w a m) (hb : Below w.heap.size w w') : ReAt w' a m := by
  have h0 := World.block_lt_of_cell? _ _ S.c0
  exact ⟨by rw [hb.cell h0]; exact S.c0, by rw [hb.cell (by rw [block_of_add]; exact h0)]; exact S.c1, by rw [hb.cell (by rw [block_of_add]; exact h0)]; exact S.c2⟩
def ReBox (w : World) (g : Nat) (m : RecV) : Prop := w.heap[g]? = some (.cells (ReC m) 70 (0, 0))
theorem ReBox.lt {m : RecV} (h : ReBox w g m) : g < w.heap.size := (Array.getElem?_eq_some_iff.1 h).1
theorem ReBox.below {m : RecV} (h : ReBox w g m) (hb : Below w.heap.size w w') : ReBox w' g m := (hb.block g h.lt).trans h
theorem ReBox.c0 {m : RecV} (h : ReBox w g m) : w.cell? ⟨g, 0, none⟩ = some (.string m.sku) := by unfold ReBox at h; simp [World.cell?, h, ReC]
theorem ReBox.c1 {m : RecV} (h : ReBox w g m) : w.cell? ⟨g, 1, none⟩ = some (.slice m.veco m.vecn m.vecc) := by unfold ReBox at h; simp [World.cell?, h, ReC]
theorem ReBox.c2 {m : RecV} (h : ReBox w g m) : w.cell? ⟨g, 2, none⟩ = some (.slice m.cloudo m.cloudn m.cloudc) := by unfold ReBox at h; simp [World.cell?, h, ReC]
theorem ReBox_new (w : World) (m : RecV) : ReBox (w.alloc (.cells (ReC m) 70)) w.heap.size m := by unfold ReBox; rw [heap_alloc_new]
def ldRe (v : Value) : Sem Value := Instr.loadAt 70 v
theorem ldRe_eq (v : Value) : Instr.loadAt 70 v = ldRe v := rfl
def stRe (p v : Value) : Sem Unit := Instr.storeAt 70 p v
theorem stRe_eq (p v : Value) : Instr.storeAt 70 p v = stRe p v := rfl
theorem sizeRe : (Tryz.prog.info? 70).map (·.size) = some 3 := by kernel_rfl
theorem ReBox.range {m : RecV} (h : ReBox w g m) : w.rangeAt g 0 (ReC m).toList := by
  intro j v hv
  rw [Nat.zero_add]
  unfold ReBox at h
  simp only [Array.getElem?_toList] at hv
  simp [World.cell?, h, hv]
theorem run_lvRe {m : RecV} (A : ReBox w g m) : (loadVar 70 ⟨g, 0, none⟩).run Tryz.prog w = .ok (ReV m) w := by
  have := run_loadVar_mid (P := Tryz.prog) w g 0 70 (ReC m).toList _ A.range Tryz.underlying70 rfl (by rw [sizeRe]; rfl)
  simpa using this
theorem run_ldRe {m : RecV} (A : ReBox w g m) : (ldRe (.pointer (some ⟨g, 0, none⟩))).run Tryz.prog w = .ok (.agg (ReC m)) w := by
  unfold ldRe
  simp only [Instr.loadAt, Instr.sureAddr, Sem.run_bind, Sem.run_pure, Result.andThen]
  exact run_lvRe A
theorem run_laRe {a : Addr} {m : RecV} (A : ReAt w a m) : (ldRe (.pointer (some a))).run Tryz.prog w = .ok (.agg (ReC m)) w := by
  have hl := run_loadCells_list (P := Tryz.prog) (w := w) a (ReC m).toList (fun j v hv => by
    match j, hv with
    | 0, hv => cases hv; rw [add_nought]; exact A.c0
    | 1, hv => cases hv; exact A.c1
    | 2, hv => cases hv; exact A.c2
    | j + 3, hv => simp [ReC] at hv)
  unfold ldRe
  simp only [Instr.loadAt, Instr.sureAddr, Sem.run_bind, Sem.run_pure, Result.andThen]
  cases hq : Tryz.prog.info? 70 with
  | none => have := sizeRe; simp [hq] at this
  | some x =>
    have hs : x.size = 3 := by have := sizeRe; simpa [hq] using this
    have hagg : (isAgg 70).run Tryz.prog w = .ok true w := by
      unfold isAgg
      rw [Sem.run_bind, run_underlying Tryz.underlying70 w]
      rfl
    have e2 : (ReC m).toList.length = 3 := rfl
    rw [e2] at hl
    simp [loadVar, Sem.run_bind, hagg, sizeOf, typeInfo, hq, hs, hl]
theorem run_stRe {m m' : RecV} (A : ReBox w g m) : (stRe (.pointer (some ⟨g, 0, none⟩)) (.agg (ReC m'))).run Tryz.prog w = .ok () (w.setRow g (ReC m')) := by
  unfold stRe
  have h := run_storeCells_from (P := Tryz.prog) g 70 (ReC m').toList 0 (ReC m) w A (by simp [ReC]) (ReC_one m')
  cases hq : Tryz.prog.info? 70 with
  | none => have := sizeRe; simp [hq] at this
  | some x =>
    have hs : x.size = 3 := by have := sizeRe; simpa [hq] using this
    simp only [Instr.storeAt, Instr.sureAddr, Sem.run_bind, Sem.run_pure, Result.andThen, storeVar, sizeOf, typeInfo, cells_ReV, ReC_size]
    simp at h
    simp [h, hq, hs]
theorem ReBox.setRow {m m' : RecV} (A : ReBox w g m) : ReBox (w.setRow g (ReC m')) g m' := setRow_heap w g _ _ _ _ A
theorem madeRe (w : World) (m : RecV) (g : Nat) (hg : w.heap.size = g) : ∃ w' : World, (stRe (.pointer (some ⟨g, 0, none⟩)) (.agg (ReC m))).run Tryz.prog (w.alloc (.cells (ReC re0) 70)) = .ok () w' ∧ ReBox w' g m ∧ Below w.heap.size w w' ∧ w'.heap.size = w.heap.size + 1 := by
  subst hg
  refine ⟨_, run_stRe (ReBox_new w _), (ReBox_new w _).setRow, below_setRow (below_new w _) (Nat.le_refl _), by simp [World.setRow]⟩
theorem res1Re {m : RecV} {fn : Func} {p : Tmp} (h : fn.results = #[.cell p 70]) {tmps : Array Value} (hp : tmps.getD p undef = .pointer (some ⟨g, 0, none⟩)) (A : ReBox w g m) :
    (results fn tmps).run Tryz.prog w = .ok (ReV m) w := by
  have hl := run_lvRe A
  simp only [results, h]
  rw [Array.getD_eq_getD_getElem?] at hp
  simp [hp, asAddr, hl]
structure FacV where
  addso : Option Addr
  addsn : Nat
  addsc : Nat
  veco : Option Addr
  vecn : Nat
  vecc : Nat
  cloudo : Option Addr
  cloudn : Nat
  cloudc : Nat
  recso : Option Addr
  recsn : Nat
  recsc : Nat
def fa0 : FacV := ⟨none, 0, 0, none, 0, 0, none, 0, 0, none, 0, 0⟩
def FaC (m : FacV) : Array Value := #[.slice m.addso m.addsn m.addsc, .slice m.veco m.vecn m.vecc, .slice m.cloudo m.cloudn m.cloudc, .slice m.recso m.recsn m.recsc]
abbrev FaV (m : FacV) : Value := .agg (FaC m)
theorem FaC_size (m : FacV) : (FaC m).size = 4 := rfl
theorem FaC_one (m : FacV) : ∀ v ∈ (FaC m).toList, v.oneCell' = true := by
  intro v hv; simp [FaC] at hv; rcases hv with rfl | rfl | rfl | rfl <;> rfl
theorem cells_FaV (m : FacV) : (FaV m).cells = FaC m := by simp [Value.cells]
structure FaAt (w : World) (a : Addr) (m : FacV) : Prop where
  c0 : w.cell? a = some (.slice m.addso m.addsn m.addsc)
  c1 : w.cell? (a.add 1) = some (.slice m.veco m.vecn m.vecc)
  c2 : w.cell? (a.add 2) = some (.slice m.cloudo m.cloudn m.cloudc)
  c3 : w.cell? (a.add 3) = some (.slice m.recso m.recsn m.recsc)
theorem FaAt.on {a : Addr} {m : FacV} (S : FaAt w a m) (hb : Below w.heap.size w w') : FaAt w' a m := by
  have h0 := World.block_lt_of_cell? _ _ S.c0
  exact ⟨by rw [hb.cell h0]; exact S.c0, by rw [hb.cell (by rw [block_of_add]; exact h0)]; exact S.c1, by rw [hb.cell (by rw [block_of_add]; exact h0)]; exact S.c2, by rw [hb.cell (by rw [block_of_add]; exact h0)]; exact S.c3⟩
def FaBox (w : World) (g : Nat) (m : FacV) : Prop := w.heap[g]? = some (.cells (FaC m) 38 (0, 0))
theorem FaBox.lt {m : FacV} (h : FaBox w g m) : g < w.heap.size := (Array.getElem?_eq_some_iff.1 h).1
theorem FaBox.below {m : FacV} (h : FaBox w g m) (hb : Below w.heap.size w w') : FaBox w' g m := (hb.block g h.lt).trans h
theorem FaBox.c0 {m : FacV} (h : FaBox w g m) : w.cell? ⟨g, 0, none⟩ = some (.slice m.addso m.addsn m.addsc) := by unfold FaBox at h; simp [World.cell?, h, FaC]
theorem FaBox.c1 {m : FacV} (h : FaBox w g m) : w.cell? ⟨g, 1, none⟩ = some (.slice m.veco m.vecn m.vecc) := by unfold FaBox at h; simp [World.cell?, h, FaC]
theorem FaBox.c2 {m : FacV} (h : FaBox w g m) : w.cell? ⟨g, 2, none⟩ = some (.slice m.cloudo m.cloudn m.cloudc) := by unfold FaBox at h; simp [World.cell?, h, FaC]
theorem FaBox.c3 {m : FacV} (h : FaBox w g m) : w.cell? ⟨g, 3, none⟩ = some (.slice m.recso m.recsn m.recsc) := by unfold FaBox at h; simp [World.cell?, h, FaC]
theorem FaBox_new (w : World) (m : FacV) : FaBox (w.alloc (.cells (FaC m) 38)) w.heap.size m := by unfold FaBox; rw [heap_alloc_new]
def ldFa (v : Value) : Sem Value := Instr.loadAt 38 v
theorem ldFa_eq (v : Value) : Instr.loadAt 38 v = ldFa v := rfl
def stFa (p v : Value) : Sem Unit := Instr.storeAt 38 p v
theorem stFa_eq (p v : Value) : Instr.storeAt 38 p v = stFa p v := rfl
theorem sizeFa : (Tryz.prog.info? 38).map (·.size) = some 4 := by kernel_rfl
theorem FaBox.range {m : FacV} (h : FaBox w g m) : w.rangeAt g 0 (FaC m).toList := by
  intro j v hv
  rw [Nat.zero_add]
  unfold FaBox at h
  simp only [Array.getElem?_toList] at hv
  simp [World.cell?, h, hv]
theorem run_lvFa {m : FacV} (A : FaBox w g m) : (loadVar 38 ⟨g, 0, none⟩).run Tryz.prog w = .ok (FaV m) w := by
  have := run_loadVar_mid (P := Tryz.prog) w g 0 38 (FaC m).toList _ A.range Tryz.underlying38 rfl (by rw [sizeFa]; rfl)
  simpa using this
theorem run_ldFa {m : FacV} (A : FaBox w g m) : (ldFa (.pointer (some ⟨g, 0, none⟩))).run Tryz.prog w = .ok (.agg (FaC m)) w := by
  unfold ldFa
  simp only [Instr.loadAt, Instr.sureAddr, Sem.run_bind, Sem.run_pure, Result.andThen]
  exact run_lvFa A
theorem run_laFa {a : Addr} {m : FacV} (A : FaAt w a m) : (ldFa (.pointer (some a))).run Tryz.prog w = .ok (.agg (FaC m)) w := by
  have hl := run_loadCells_list (P := Tryz.prog) (w := w) a (FaC m).toList (fun j v hv => by
    match j, hv with
    | 0, hv => cases hv; rw [add_nought]; exact A.c0
    | 1, hv => cases hv; exact A.c1
    | 2, hv => cases hv; exact A.c2
    | 3, hv => cases hv; exact A.c3
    | j + 4, hv => simp [FaC] at hv)
  unfold ldFa
  simp only [Instr.loadAt, Instr.sureAddr, Sem.run_bind, Sem.run_pure, Result.andThen]
  cases hq : Tryz.prog.info? 38 with
  | none => have := sizeFa; simp [hq] at this
  | some x =>
    have hs : x.size = 4 := by have := sizeFa; simpa [hq] using this
    have hagg : (isAgg 38).run Tryz.prog w = .ok true w := by
      unfold isAgg
      rw [Sem.run_bind, run_underlying Tryz.underlying38 w]
      rfl
    have e2 : (FaC m).toList.length = 4 := rfl
    rw [e2] at hl
    simp [loadVar, Sem.run_bind, hagg, sizeOf, typeInfo, hq, hs, hl]
theorem run_stFa {m m' : FacV} (A : FaBox w g m) : (stFa (.pointer (some ⟨g, 0, none⟩)) (.agg (FaC m'))).run Tryz.prog w = .ok () (w.setRow g (FaC m')) := by
  unfold stFa
  have h := run_storeCells_from (P := Tryz.prog) g 38 (FaC m').toList 0 (FaC m) w A (by simp [FaC]) (FaC_one m')
  cases hq : Tryz.prog.info? 38 with
  | none => have := sizeFa; simp [hq] at this
  | some x =>
    have hs : x.size = 4 := by have := sizeFa; simpa [hq] using this
    simp only [Instr.storeAt, Instr.sureAddr, Sem.run_bind, Sem.run_pure, Result.andThen, storeVar, sizeOf, typeInfo, cells_FaV, FaC_size]
    simp at h
    simp [h, hq, hs]
theorem FaBox.setRow {m m' : FacV} (A : FaBox w g m) : FaBox (w.setRow g (FaC m')) g m' := setRow_heap w g _ _ _ _ A
theorem madeFa (w : World) (m : FacV) (g : Nat) (hg : w.heap.size = g) : ∃ w' : World, (stFa (.pointer (some ⟨g, 0, none⟩)) (.agg (FaC m))).run Tryz.prog (w.alloc (.cells (FaC fa0) 38)) = .ok () w' ∧ FaBox w' g m ∧ Below w.heap.size w w' ∧ w'.heap.size = w.heap.size + 1 := by
  subst hg
  refine ⟨_, run_stFa (FaBox_new w _), (FaBox_new w _).setRow, below_setRow (below_new w _) (Nat.le_refl _), by simp [World.setRow]⟩
theorem res1Fa {m : FacV} {fn : Func} {p : Tmp} (h : fn.results = #[.cell p 38]) {tmps : Array Value} (hp : tmps.getD p undef = .pointer (some ⟨g, 0, none⟩)) (A : FaBox w g m) :
    (results fn tmps).run Tryz.prog w = .ok (FaV m) w := by
  have hl := run_lvFa A
  simp only [results, h]
  rw [Array.getD_eq_getD_getElem?] at hp
  simp [hp, asAddr, hl]
end Go.Proofs.YtojpjakpcihacaaGreat

namespace Go.Proofs.YtojpjakpcihacaaGreat
open Go.RowKit
attribute [local go_sem ↓] ldP_eq stP_eq ldRe_eq stRe_eq
attribute [local go_sem] cells_PV PC_size cells_ReV ReC_size

/-- a record -/
structure Rc where
  s : ByteArray
  p : Pv
def rc0 : Rc := ⟨⟨#[]⟩, pv0⟩
def mkR (r : Rc) : RecV := ⟨r.s, r.p.vo, r.p.vn, r.p.vc, r.p.co, r.p.cn, r.p.cc⟩
theorem ReBox.sk {w : World} {g : Nat} {r : Rc} (h : ReBox w g (mkR r)) : w.cell? ⟨g, 0, none⟩ = some (.string r.s) := h.c0
theorem ReBox.past {w : World} {g : Nat} {r : Rc} (h : ReBox w g (mkR r)) : PAt w ⟨g, 1, none⟩ r.p := ⟨h.c1, h.c2⟩
def RcOk (w : World) (r : Rc) : Prop := PSrc w r.p ∧ r.s.size ≤ maxLen
theorem RcOk.below {w w' : World} {r : Rc} (h : RcOk w r) (hb : Below w.heap.size w w') : RcOk w' r := ⟨h.1.below hb, h.2⟩
/-- nothing is in it -/
def EmptyP (P : Pst) : Prop := ∀ r, r < 16 → ∀ n, ¬ mem (runsAt P r) n
/-- the sku may stand in a record -/
def skuR (s : ByteArray) : Bool := decide (s.size = 0) || K.good s.data.toList
def FormP (P : Pst) : Prop := InForm P ∧ ¬ EmptyP P
theorem pick_nil (F : Value) (w : World) : Calls Tryz.prog 78 #[.slice none 0 0, F] w fun e w' => e = .returned (.slice none 0 0) ∧ Below w.heap.size w w' := by
  go_enter Tryz.func78, Tryz.ntmps78
  go_wp2_with fail
  go_loopw [5, 10] (fun o i wr => o = .slice none 0 0 ∧ i = .int .i64 0 ∧ wr = w) (fun _ _ _ => 0)
  case atStart => exact ⟨rfl, rfl, rfl⟩
  case round =>
    obtain ⟨rfl, rfl, rfl⟩ := hrel
    go_wp2_with fail
    go_ret
    exact ⟨rfl, Below.refl _ _⟩
/-- the error of a SKU that is none -/
def ofE (s : ByteArray) : Int := if K.good s.data.toList = true then 0 else 5
theorem esrc_nil (w : World) : K.ESrc w none 0 0 [] := ⟨rfl, fun _ => ⟨rfl, rfl⟩, (fun ad h => by cases h), (fun e h => by cases h), by decide⟩
theorem of_nil (s : ByteArray) (w : World) (hs : s.size ≤ maxLen) : Calls Tryz.prog 55 #[.slice none 0 0, .string s] w fun e w' => ∃ x, e = .returned (.tuple #[.slice none 0 0, .int .i64 x]) ∧ x = ofE s ∧ Below w.heap.size w w' := by
  have b1 := below_new w (.cells #[.string s] 9)
  obtain ⟨wk, hwk⟩ : ∃ wk, w.alloc (.cells #[.string s] 9) = wk := ⟨_, rfl⟩
  have c1 : wk.cell? ⟨w.heap.size, 0, none⟩ = some (.string s) := by rw [← hwk]; have h := heap_alloc_new w (.cells #[.string s] 9); simp only [World.cell?, h]; rfl
  rw [hwk] at b1
  have HB := hide b1
  clear b1
  go_enter Tryz.func55, Tryz.ntmps55
  go_wp2_with fail
  clear hwk
  refine (K.lcheck_any none 0 0 [] _ (esrc_nil _)).mono ?_
  rintro e w2 ⟨rfl, b2⟩
  have c2 := (b2.cell (World.block_lt_of_cell? _ _ c1)).trans c1
  have HB2 := hide (HB.out.trans (b2.mono HB.out.size))
  clear b2 c1
  rw [show K.chk [] = 0 from rfl]
  go_wp2_with fail
  refine (K.good_any s _ hs).mono ?_
  rintro e w' ⟨rfl, rfl⟩
  cases hg : K.good s.data.toList with
  | false =>
    have HE : Hid (5 = ofE s) := by show _ = _; unfold ofE; rw [hg]; rfl
    clear hg
    go_wp2_with fail
    go_ret2
    exact ⟨5, rfl, HE.out, HB2.out⟩
  | true =>
    have HE : Hid (0 = ofE s) := by show _ = _; unfold ofE; rw [hg]; rfl
    clear hg
    go_wp2_with fail
    refine (pick_nil _ _).mono ?_
    rintro e w3 ⟨rfl, b3⟩
    have HB3 := hide (HB2.out.trans (b3.mono HB2.out.size))
    clear b3 c2
    go_wp2_with fail
    go_ret2
    exact ⟨0, rfl, HE.out, HB3.out⟩
theorem isSkuOrEmpty_any (s : ByteArray) (w : World) (hs : s.size ≤ maxLen) : Calls Tryz.prog 69 #[.string s] w fun e w' => e = .returned (.bool (skuR s)) ∧ Below w.heap.size w w' := by
  go_enter Tryz.func69, Tryz.ntmps69
  go_wp2_with fail
  refine (of_nil s _ hs).mono ?_
  rintro e w2 ⟨x, rfl, hx, b2⟩
  have HB2 := hide b2
  clear b2
  by_cases h0 : s.size = 0
  · have e0 := K.empty_yes s h0
    have HR : Hid (skuR s = true) := by show _ = _; unfold skuR; rw [decide_eq_true h0, Bool.true_or]
    clear h0 hx
    go_wp2_with fail
    go_ret
    exact ⟨by rw [HR.out]; rfl, HB2.out⟩
  · have e0 := K.empty_no s h0
    have HR : Hid (skuR s = K.good s.data.toList) := by show _ = _; unfold skuR; rw [decide_eq_false h0, Bool.false_or]
    cases hg : K.good s.data.toList with
    | true =>
      rw [hg] at HR
      obtain rfl : x = 0 := by rw [hx]; unfold ofE; rw [hg]; rfl
      clear h0 hx hg
      go_wp2_with fail
      go_ret
      exact ⟨by rw [HR.out]; rfl, HB2.out⟩
    | false =>
      rw [hg] at HR
      obtain rfl : x = 5 := by rw [hx]; unfold ofE; rw [hg]; rfl
      clear h0 hx hg
      go_wp2_with fail
      go_ret
      exact ⟨by rw [HR.out]; rfl, HB2.out⟩
/-- what CheckRecord answers -/
def RecE (r : Rc) (x : Int) : Prop := (skuR r.s = false ∧ x = 5) ∨ (skuR r.s = true ∧ ¬ FormP r.p.P ∧ x = 1) ∨ (skuR r.s = true ∧ FormP r.p.P ∧ x = 0)
theorem RecE.zero {r : Rc} {x : Int} (h : RecE r x) : x = 0 ↔ (skuR r.s = true ∧ FormP r.p.P) := by
  rcases h with ⟨h1, rfl⟩ | ⟨h1, h2, rfl⟩ | ⟨h1, h2, rfl⟩
  · simp [h1]
  · simp [h2]
  · simp [h1, h2]
set_option maxRecDepth 100000 in
theorem checkRecord_any (r : Rc) (w : World) (hR : RcOk w r) : Calls Tryz.prog 46 #[ReV (mkR r)] w fun e w' => GivesK w w' e (RecE r) := by
  have HX := hide (ReBox_new w (mkR r))
  have HBK := hide (below_new w (.cells (ReC (mkR r)) 70))
  have HS := hide (hR.1.below HBK.out)
  have hs := hR.2
  clear hR
  obtain ⟨wk, hwk⟩ : ∃ wk, w.alloc (.cells (ReC (mkR r)) 70) = wk := ⟨_, rfl⟩
  obtain ⟨G, hG⟩ : ∃ G, w.heap.size = G := ⟨_, rfl⟩
  rw [hwk] at HX HBK HS
  rw [hG] at HX
  have c0 := HX.out.sk
  go_enter Tryz.func46, Tryz.ntmps46
  go_wp2_with fail
  clear hwk
  refine (isSkuOrEmpty_any r.s _ hs).mono ?_
  rintro e w2 ⟨rfl, b2⟩
  have HB2 := hide (HBK.out.trans (b2.mono HBK.out.size))
  have HX2 := hide (HX.out.below b2)
  have HS2 := hide (HS.out.below b2)
  clear b2 c0
  cases hg : skuR r.s with
  | false =>
    have HE : Hid (RecE r 5) := .inl ⟨hg, rfl⟩
    clear hg
    go_wp2_with fail
    go_ret
    exact ⟨_, rfl, HE.out, HB2.out⟩
  | true =>
    have HG := hide hg
    clear hg
    have l2 := run_ldP HX2.out.past
    go_wp2_with fail
    refine (isNormP_any r.p _ HS2.out).mono ?_
    rintro e w3 ⟨b, rfl, hb, b3⟩
    have HB3 := hide (HB2.out.trans (b3.mono HB2.out.size))
    have HX3 := hide (HX2.out.below b3)
    have HS3 := hide (HS2.out.below b3)
    clear b3 l2
    cases b with
    | false =>
      have HE : Hid (RecE r 1) := .inr (.inl ⟨HG.out, fun h => (by have := hb.out.2 h.1; cases this), rfl⟩)
      clear hb
      go_wp2_with fail
      go_ret
      exact ⟨_, rfl, HE.out, HB3.out⟩
    | true =>
      have HF : Hid (InForm r.p.P) := hb.out.1 rfl
      clear hb
      have l3 := run_ldP HX3.out.past
      go_wp2_with fail
      refine (pastEmpty_any r.p _ HS3.out).mono ?_
      rintro e w4 ⟨b, rfl, hb, b4⟩
      have HB4 := hide (HB3.out.trans (b4.mono HB3.out.size))
      clear b4 l3
      cases b with
      | true =>
        have HE : Hid (RecE r 1) := .inr (.inl ⟨HG.out, fun h => h.2 (hb.1 rfl), rfl⟩)
        clear hb
        go_wp2_with fail
        go_ret
        exact ⟨_, rfl, HE.out, HB4.out⟩
      | false =>
        have HE : Hid (RecE r 0) := .inr (.inr ⟨HG.out, ⟨HF.out, fun h => (by have := hb.2 h; cases this)⟩, rfl⟩)
        clear hb
        go_wp2_with fail
        go_ret
        exact ⟨_, rfl, HE.out, HB4.out⟩
/-- how two records stand -/
def cmpS (a b : ByteArray) : Int := Lib.compareBytes a.data.toList b.data.toList
def CmpR (a b : Rc) (z : Int) : Prop := (cmpS a.s b.s ≠ 0 ∧ z = cmpS a.s b.s) ∨ (cmpS a.s b.s = 0 ∧ CmpOf a.p.P b.p.P z)
theorem CmpR.unique {a b : Rc} {z z' : Int} (h : CmpR a b z) (h' : CmpR a b z') : z = z' := by
  rcases h with ⟨h1, h2⟩ | ⟨h1, h2⟩ <;> rcases h' with ⟨g1, g2⟩ | ⟨g1, g2⟩
  · rw [h2, g2]
  · exact absurd g1 h1
  · exact absurd h1 g1
  · exact h2.unique g2
set_option maxRecDepth 100000 in
theorem keepCompare_any (a b : Rc) (w : World) (hA : RcOk w a) (hB : RcOk w b) : Calls Tryz.prog 47 #[ReV (mkR a), ReV (mkR b)] w fun e w' => GivesK w w' e (CmpR a b) := by
  have b1 := below_new w (.cells (ReC (mkR a)) 70)
  have b2 := below_new (w.alloc (.cells (ReC (mkR a)) 70)) (.cells (ReC (mkR b)) 70)
  have X2 := ReBox_new (w.alloc (.cells (ReC (mkR a)) 70)) (mkR b)
  rw [World.size_alloc] at X2
  have HXA := hide ((ReBox_new w (mkR a)).below b2)
  have HXB := hide X2
  have HBK := hide (b1.trans (b2.mono b1.size))
  have HSA := hide (hA.1.below HBK.out)
  have HSB := hide (hB.1.below HBK.out)
  clear b1 b2 X2 hA hB
  obtain ⟨wk, hwk⟩ : ∃ wk, (w.alloc (.cells (ReC (mkR a)) 70)).alloc (.cells (ReC (mkR b)) 70) = wk := ⟨_, rfl⟩
  obtain ⟨G, hG⟩ : ∃ G, w.heap.size = G := ⟨_, rfl⟩
  rw [hwk] at HXA HXB HBK HSA HSB
  rw [hG] at HXA HXB
  have c1 := HXA.out.sk
  have c2 := HXB.out.sk
  have l1 := run_ldP HXA.out.past
  have l2 := run_ldP HXB.out.past
  go_enter Tryz.func47, Tryz.ntmps47
  go_wp2_with fail
  clear hwk
  refine (Tryz.strings_Compare a.s b.s _).mono ?_
  rintro e w' ⟨rfl, rfl⟩
  by_cases h0 : cmpS a.s b.s = 0
  · have HZ := hide h0
    rw [show Lib.compareBytes a.s.data.toList b.s.data.toList = 0 from h0]
    clear h0
    go_wp2_with fail
    refine (pastCompare_any a.p b.p _ HSA.out HSB.out).mono ?_
    rintro e w2 ⟨k, rfl, hk, b2⟩
    have HF : Hid (CmpR a b k ∧ Below w.heap.size w w2) := ⟨.inr ⟨HZ.out, hk⟩, HBK.out.trans (b2.mono HBK.out.size)⟩
    clear hk b2 l1 l2
    go_wp2_with fail
    go_ret
    exact ⟨_, rfl, HF.out.1, HF.out.2⟩
  · obtain ⟨z, hz⟩ : ∃ z, cmpS a.s b.s = z := ⟨_, rfl⟩
    have HF : Hid (CmpR a b z) := .inl ⟨h0, hz.symm⟩
    rw [show Lib.compareBytes a.s.data.toList b.s.data.toList = z from hz]
    have hne : (z != 0) = true := by rw [hz] at h0; simpa using h0
    clear h0 hz
    go_wp2_with fail
    go_ret
    exact ⟨_, rfl, HF.out, HBK.out⟩
end Go.Proofs.YtojpjakpcihacaaGreat

namespace Go.Proofs.YtojpjakpcihacaaGreat
open Go.RowKit
attribute [local go_sem ↓] ldP_eq stP_eq ldRe_eq stRe_eq
attribute [local go_sem] cells_PV PC_size cells_ReV ReC_size

theorem zero_ReC : (#[.string ⟨#[]⟩, .slice none 0 0, .slice none 0 0] : Array Value) = ReC re0 := rfl
attribute [local go_sem] zero_ReC
/-- a row of records -/
structure RcS (w : World) (ao : Option Addr) (n cap : Nat) (L : List Rc) : Prop where
  len : L.length = n
  nil : ao = none → n = 0
  at_ : ∀ ad, ao = some ad → ∀ t, t < n → ReAt w (ad.add (t * 3)) (mkR (L.getD t rc0))
  ok : ∀ r ∈ L, RcOk w r
  big : n ≤ 2199023255552
theorem RcS.below {w w' : World} {ao : Option Addr} {n cap : Nat} {L : List Rc} (h : RcS w ao n cap L) (hb : Below w.heap.size w w') : RcS w' ao n cap L :=
  ⟨h.len, h.nil, fun ad e t ht => (h.at_ ad e t ht).on hb, fun r hr => (h.ok r hr).below hb, h.big⟩
theorem RcS.at {w : World} {ao : Option Addr} {n cap : Nat} {L : List Rc} (h : RcS w ao n cap L) (k : Nat) (hk : k < n) : ∃ ad, ao = some ad ∧ ReAt w (ad.add (k * 3)) (mkR (L.getD k rc0)) := by
  cases ao with
  | none => have := h.nil rfl; omega
  | some ad => exact ⟨ad, rfl, h.at_ ad rfl k hk⟩
theorem RcS.okAt {w : World} {ao : Option Addr} {n cap : Nat} {L : List Rc} (h : RcS w ao n cap L) (k : Nat) (hk : k < n) : RcOk w (L.getD k rc0) := by
  have hl := h.len
  rw [List.getD_eq_getElem?_getD, List.getElem?_eq_getElem (by omega)]
  exact h.ok _ (List.getElem_mem _)
theorem RcS.empty (w : World) : RcS w none 0 0 [] := ⟨rfl, fun _ => rfl, (fun ad h => by cases h), (fun r h => by cases h), by decide⟩
/-- a record in form -/
def RecOk (r : Rc) : Prop := skuR r.s = true ∧ FormP r.p.P
def LtR (a b : Rc) : Prop := ∃ z, CmpR a b z ∧ z < 0
/-- the first k are in form, and rise -/
def OkR (L : List Rc) (k : Nat) : Prop := ∀ j, j < k → RecOk (L.getD j rc0) ∧ (0 < j → LtR (L.getD (j - 1) rc0) (L.getD j rc0))
theorem OkR.snoc {L : List Rc} {k : Nat} (h : OkR L k) (h1 : RecOk (L.getD k rc0)) (h2 : 0 < k → LtR (L.getD (k - 1) rc0) (L.getD k rc0)) : OkR L (k + 1) := by
  intro j hj
  by_cases e : j = k
  · subst e; exact ⟨h1, h2⟩
  · exact h j (by omega)
theorem okR_zero (L : List Rc) : OkR L 0 := fun j hj => absurd hj (Nat.not_lt_zero j)
def ChkR (L : List Rc) (n : Nat) (x : Int) : Prop := (x = 0 ∧ OkR L n) ∨ (x = 1 ∧ ¬ OkR L n)
set_option maxRecDepth 100000 in
set_option maxHeartbeats 3200000 in
theorem keepCheck_any (ao : Option Addr) (n cap : Nat) (L : List Rc) (w : World) (hS : RcS w ao n cap L) : Calls Tryz.prog 24 #[.slice ao n cap] w fun e w' => GivesK w w' e (ChkR L n) := by
  have HS := hide hS
  have hn := hS.big
  clear hS
  go_enter Tryz.func24, Tryz.ntmps24
  go_wp2_with fail
  go_loopw [7] (fun i wr => ∃ k : Nat, k ≤ n ∧ i = .int .i64 k ∧ Hid (OkR L k) ∧ Hid (Below w.heap.size w wr)) (fun i _ => n - (intOf i).toNat)
  case atStart => exact ⟨0, Nat.zero_le _, rfl, okR_zero L, Below.refl _ _⟩
  case round =>
    obtain ⟨k, hk, rfl, HK, HB⟩ := hrel
    rename World => wr
    by_cases hlt : k < n
    · obtain ⟨ad, rfl, A0⟩ := (HS.out.below HB.out).at k hlt
      have hld := run_laRe A0
      have HO := hide ((HS.out.below HB.out).okAt k hlt)
      have HSr := hide (HS.out.below HB.out)
      obtain ⟨r, Hr⟩ : ∃ r, Hid (L.getD k rc0 = r) := ⟨_, rfl⟩
      rw [Hr.out] at hld HO
      obtain ⟨gr, hgr⟩ : ∃ g, wr.heap.size = g := ⟨_, rfl⟩
      obtain ⟨w1, hst, X1, B1, -⟩ := madeRe wr (mkR r) gr hgr
      have HX := hide X1
      have HB1 := hide (HB.out.trans (B1.mono HB.out.size))
      have HO1 := hide (HO.out.below B1)
      have HSr1 := hide (HSr.out.below B1)
      clear X1 B1 A0 HO HSr
      have Hlt := hide hlt
      by_cases hk0 : k = 0
      · have hk1 : decide (0 < k) = false := by rw [decide_eq_false_iff_not]; omega
        have HK0 := hide hk0
        clear hk0
        go_wp2_with fail
        clear hst hld
        refine wp_region_held_drew (S := fun v => (ldRe (.pointer (some ⟨gr, 0, none⟩))).run Tryz.prog v = .ok (.agg (ReC (mkR r))) v) (by kernel_rfl) (run_ldRe (HX.out.below (below_drew1 w1))) (fun hHeld => ?_)
        refine wpAnyH_take (i := 0) (oi := { dst := some 12, op := Op.load 70 (Operand.tmp 4), type := 70, pos := "records.go:34", after := #[], guard := none }) (v := ?_) rfl (by kernel_rfl) (by kernel_rfl) (by kernel_rfl) (fun _ _ _ h => h) (Or.inl ⟨by rfl, ?_⟩) (by assumption) ?_
        rotate_left
        · (intro w hSw; (try dsimp only at hSw); go_simp); first | done | with_reducible rfl
        simp only [Act.put, List.setIfInBounds_toArray, List.set_cons_zero, List.set_cons_succ]
        refine wpAnyH_ready (rs := [1]) (by kernel_rfl) (by simp) ?_
        refine AllReadyH.cons rfl (fun K hK => ?_) ?_
        rotate_left
        · exact AllReadyH.nil
        go_simp
        go_wp2_with fail
        refine (checkRecord_any r _ (HO1.out.below (below_drew1 w1))).mono ?_
        rintro e w2 ⟨x, rfl, hx, b2⟩
        have hB2 : Below w1.heap.size w1 w2 := (below_drew1 w1).trans b2
        have HB2 := hide hB2
        refine hK.out _ _ (run_ldRe (HX.out.below (hB2))) (fun hHeld => ?_)
        clear hK K b2
        by_cases hx0 : x = 0
        · obtain rfl := hx0
          have HOk : Hid (RecOk (L.getD k rc0)) := by rw [Hr.out]; exact hx.zero.1 rfl
          clear hx
          refine wpAnyH_take (i := 2) (oi := { dst := some 14, op := Op.binOp BinOp.neq 30 (Operand.tmp 13) (Operand.const (Value.int IntKind.i64 0)) 30, type := 4, pos := "records.go:34", after := #[{ on := 1, ground := Ground.data }], guard := none }) (v := ?_) rfl (by kernel_rfl) (by kernel_rfl) (by kernel_rfl) (fun _ _ _ h => h) (Or.inl ⟨by rfl, ?_⟩) (by assumption) ?_
          rotate_left
          · (intro w hSw; (try dsimp only at hSw); go_simp); first | done | with_reducible rfl
          simp only [Act.put, List.setIfInBounds_toArray, List.set_cons_zero, List.set_cons_succ]
          refine wpAnyH_take (i := 3) (oi := { dst := some 15, op := Op.move (Operand.tmp 14), type := 4, pos := "records.go:34", after := #[{ on := 2, ground := Ground.data }, { on := 1, ground := Ground.chain }], guard := none }) (v := ?_) rfl (by kernel_rfl) (by kernel_rfl) (by kernel_rfl) (fun _ _ _ h => h) (Or.inl ⟨by rfl, ?_⟩) (by assumption) ?_
          rotate_left
          · (intro w hSw; (try dsimp only at hSw); go_simp); first | done | with_reducible rfl
          simp only [Act.put, List.setIfInBounds_toArray, List.set_cons_zero, List.set_cons_succ]
          refine wpAnyH_take (i := 4) (oi := { dst := some 16, op := Op.move (Operand.tmp 3), type := 3, pos := "records.go:34", after := #[{ on := 3, ground := Ground.guard }], guard := some (3, false) }) (v := ?_) rfl (by kernel_rfl) (by kernel_rfl) (by kernel_rfl) (fun _ _ _ h => h) (Or.inl ⟨by rfl, ?_⟩) (by assumption) ?_
          rotate_left
          · (intro w hSw; (try dsimp only at hSw); go_simp); first | done | with_reducible rfl
          simp only [Act.put, List.setIfInBounds_toArray, List.set_cons_zero, List.set_cons_succ]
          refine wpAnyH_take (i := 5) (oi := { dst := some 17, op := Op.binOp BinOp.gtr 3 (Operand.tmp 16) (Operand.const (Value.int IntKind.i64 0)) 3, type := 4, pos := "records.go:34", after := #[{ on := 4, ground := Ground.data }, { on := 3, ground := Ground.guard }], guard := some (3, false) }) (v := ?_) rfl (by kernel_rfl) (by kernel_rfl) (by kernel_rfl) (fun _ _ _ h => h) (Or.inl ⟨by rfl, ?_⟩) (by assumption) ?_
          rotate_left
          · (intro w hSw; (try dsimp only at hSw); go_simp); first | done | with_reducible rfl
          simp only [Act.put, List.setIfInBounds_toArray, List.set_cons_zero, List.set_cons_succ]
          refine wpAnyH_take (i := 6) (oi := { dst := some 18, op := Op.move (Operand.tmp 17), type := 4, pos := "records.go:34", after := #[{ on := 5, ground := Ground.data }, { on := 3, ground := Ground.chain }, { on := 3, ground := Ground.guard }], guard := some (3, false) }) (v := ?_) rfl (by kernel_rfl) (by kernel_rfl) (by kernel_rfl) (fun _ _ _ h => h) (Or.inl ⟨by rfl, ?_⟩) (by assumption) ?_
          rotate_left
          · (intro w hSw; (try dsimp only at hSw); go_simp); first | done | with_reducible rfl
          simp only [Act.put, List.setIfInBounds_toArray, List.set_cons_zero, List.set_cons_succ]
          refine wpAnyH_take (i := 7) (oi := { dst := some 19, op := Op.move (Operand.tmp 0), type := 36, pos := "records.go:34", after := #[{ on := 6, ground := Ground.guard }], guard := some (6, true) }) (v := undef) rfl (by kernel_rfl) (by kernel_rfl) (by kernel_rfl) (fun _ _ _ h => h) (Or.inr ⟨by rfl, by rfl⟩) (by assumption) ?_
          simp only [Act.put, List.setIfInBounds_toArray, List.set_cons_zero, List.set_cons_succ]
          refine wpAnyH_take (i := 8) (oi := { dst := some 20, op := Op.move (Operand.tmp 3), type := 3, pos := "records.go:34", after := #[{ on := 6, ground := Ground.guard }], guard := some (6, true) }) (v := undef) rfl (by kernel_rfl) (by kernel_rfl) (by kernel_rfl) (fun _ _ _ h => h) (Or.inr ⟨by rfl, by rfl⟩) (by assumption) ?_
          simp only [Act.put, List.setIfInBounds_toArray, List.set_cons_zero, List.set_cons_succ]
          refine wpAnyH_take (i := 9) (oi := { dst := some 21, op := Op.binOp BinOp.sub 3 (Operand.tmp 20) (Operand.const (Value.int IntKind.i64 1)) 3, type := 3, pos := "records.go:34", after := #[{ on := 8, ground := Ground.data }, { on := 6, ground := Ground.guard }], guard := some (6, true) }) (v := undef) rfl (by kernel_rfl) (by kernel_rfl) (by kernel_rfl) (fun _ _ _ h => h) (Or.inr ⟨by rfl, by rfl⟩) (by assumption) ?_
          simp only [Act.put, List.setIfInBounds_toArray, List.set_cons_zero, List.set_cons_succ]
          refine wpAnyH_take (i := 10) (oi := { dst := some 22, op := Op.indexAddr 36 (Operand.tmp 19) (Operand.tmp 21), type := 0, pos := "records.go:34", after := #[{ on := 7, ground := Ground.data }, { on := 9, ground := Ground.data }, { on := 6, ground := Ground.guard }], guard := some (6, true) }) (v := undef) rfl (by kernel_rfl) (by kernel_rfl) (by kernel_rfl) (fun _ _ _ h => h) (Or.inr ⟨by rfl, by rfl⟩) (by assumption) ?_
          simp only [Act.put, List.setIfInBounds_toArray, List.set_cons_zero, List.set_cons_succ]
          refine wpAnyH_take (i := 11) (oi := { dst := some 23, op := Op.load 70 (Operand.tmp 22), type := 70, pos := "records.go:34", after := #[{ on := 10, ground := Ground.data }, { on := 6, ground := Ground.guard }], guard := some (6, true) }) (v := undef) rfl (by kernel_rfl) (by kernel_rfl) (by kernel_rfl) (fun _ _ _ h => h) (Or.inr ⟨by rfl, by rfl⟩) (by assumption) ?_
          simp only [Act.put, List.setIfInBounds_toArray, List.set_cons_zero, List.set_cons_succ]
          refine wpAnyH_take (i := 12) (oi := { dst := some 24, op := Op.load 70 (Operand.tmp 4), type := 70, pos := "records.go:34", after := #[{ on := 6, ground := Ground.guard }], guard := some (6, true) }) (v := undef) rfl (by kernel_rfl) (by kernel_rfl) (by kernel_rfl) (fun _ _ _ h => h) (Or.inr ⟨by rfl, by rfl⟩) (by assumption) ?_
          simp only [Act.put, List.setIfInBounds_toArray, List.set_cons_zero, List.set_cons_succ]
          refine wpAnyH_take (i := 13) (oi := { dst := some 25, op := Op.call { callee := Callee.value (Operand.func 47), args := #[Operand.tmp 23, Operand.tmp 24], argTypes := #[70, 70] }, type := 3, pos := "records.go:34", after := #[{ on := 11, ground := Ground.data }, { on := 12, ground := Ground.data }, { on := 6, ground := Ground.chain }, { on := 6, ground := Ground.guard }], guard := some (6, true) }) (v := undef) rfl (by kernel_rfl) (by kernel_rfl) (by kernel_rfl) (fun _ _ _ h => h) (Or.inr ⟨by rfl, by rfl⟩) (by assumption) ?_
          simp only [Act.put, List.setIfInBounds_toArray, List.set_cons_zero, List.set_cons_succ]
          refine wpAnyH_take (i := 14) (oi := { dst := some 26, op := Op.binOp BinOp.geq 3 (Operand.tmp 25) (Operand.const (Value.int IntKind.i64 0)) 3, type := 4, pos := "records.go:34", after := #[{ on := 13, ground := Ground.data }, { on := 6, ground := Ground.guard }], guard := some (6, true) }) (v := undef) rfl (by kernel_rfl) (by kernel_rfl) (by kernel_rfl) (fun _ _ _ h => h) (Or.inr ⟨by rfl, by rfl⟩) (by assumption) ?_
          simp only [Act.put, List.setIfInBounds_toArray, List.set_cons_zero, List.set_cons_succ]
          refine wpAnyH_take (i := 15) (oi := { dst := some 27, op := Op.pick (Operand.tmp 18) (Operand.tmp 26) (Operand.const (Value.bool false)), type := 4, pos := "records.go:34", after := #[{ on := 6, ground := Ground.data }, { on := 14, ground := Ground.data }, { on := 3, ground := Ground.guard }], guard := some (3, false) }) (v := ?_) rfl (by kernel_rfl) (by kernel_rfl) (by kernel_rfl) (fun _ _ _ h => h) (Or.inl ⟨by rfl, ?_⟩) (by assumption) ?_
          rotate_left
          · (intro w hSw; (try dsimp only at hSw); go_simp); first | done | with_reducible rfl
          simp only [Act.put, List.setIfInBounds_toArray, List.set_cons_zero, List.set_cons_succ]
          refine wpAnyH_take (i := 16) (oi := { dst := some 28, op := Op.pick (Operand.tmp 15) (Operand.const (Value.bool true)) (Operand.tmp 27), type := 4, pos := "records.go:34", after := #[{ on := 3, ground := Ground.data }, { on := 15, ground := Ground.data }], guard := none }) (v := ?_) rfl (by kernel_rfl) (by kernel_rfl) (by kernel_rfl) (fun _ _ _ h => h) (Or.inl ⟨by rfl, ?_⟩) (by assumption) ?_
          rotate_left
          · (intro w hSw; (try dsimp only at hSw); go_simp); first | done | with_reducible rfl
          simp only [Act.put, List.setIfInBounds_toArray, List.set_cons_zero, List.set_cons_succ]
          refine wpAnyH_done (by kernel_rfl) ?_ _
          clear hHeld
          go_wp2_with fail
          go_roundw
          case rel => exact ⟨k + 1, by omega, by simp, HK.out.snoc HOk.out (fun h => absurd h (by have := HK0.out; omega)), HB1.out.trans (HB2.out.mono HB1.out.size)⟩
          case measure => simp [intOf]; omega
        · have HNo : Hid (¬ OkR L n) := fun h => hx0 (hx.zero.2 (by have := (h k Hlt.out).1; rw [Hr.out] at this; exact this))
          have hxb : (x != 0) = true := by simpa using hx0
          clear hx hx0
          refine wpAnyH_take (i := 2) (oi := { dst := some 14, op := Op.binOp BinOp.neq 30 (Operand.tmp 13) (Operand.const (Value.int IntKind.i64 0)) 30, type := 4, pos := "records.go:34", after := #[{ on := 1, ground := Ground.data }], guard := none }) (v := ?_) rfl (by kernel_rfl) (by kernel_rfl) (by kernel_rfl) (fun _ _ _ h => h) (Or.inl ⟨by rfl, ?_⟩) (by assumption) ?_
          rotate_left
          · (intro w hSw; (try dsimp only at hSw); go_simp); first | done | with_reducible rfl
          simp only [Act.put, List.setIfInBounds_toArray, List.set_cons_zero, List.set_cons_succ]
          refine wpAnyH_take (i := 3) (oi := { dst := some 15, op := Op.move (Operand.tmp 14), type := 4, pos := "records.go:34", after := #[{ on := 2, ground := Ground.data }, { on := 1, ground := Ground.chain }], guard := none }) (v := ?_) rfl (by kernel_rfl) (by kernel_rfl) (by kernel_rfl) (fun _ _ _ h => h) (Or.inl ⟨by rfl, ?_⟩) (by assumption) ?_
          rotate_left
          · (intro w hSw; (try dsimp only at hSw); go_simp); first | done | with_reducible rfl
          simp only [Act.put, List.setIfInBounds_toArray, List.set_cons_zero, List.set_cons_succ]
          refine wpAnyH_take (i := 4) (oi := { dst := some 16, op := Op.move (Operand.tmp 3), type := 3, pos := "records.go:34", after := #[{ on := 3, ground := Ground.guard }], guard := some (3, false) }) (v := undef) rfl (by kernel_rfl) (by kernel_rfl) (by kernel_rfl) (fun _ _ _ h => h) (Or.inr ⟨by rfl, by rfl⟩) (by assumption) ?_
          simp only [Act.put, List.setIfInBounds_toArray, List.set_cons_zero, List.set_cons_succ]
          refine wpAnyH_take (i := 5) (oi := { dst := some 17, op := Op.binOp BinOp.gtr 3 (Operand.tmp 16) (Operand.const (Value.int IntKind.i64 0)) 3, type := 4, pos := "records.go:34", after := #[{ on := 4, ground := Ground.data }, { on := 3, ground := Ground.guard }], guard := some (3, false) }) (v := undef) rfl (by kernel_rfl) (by kernel_rfl) (by kernel_rfl) (fun _ _ _ h => h) (Or.inr ⟨by rfl, by rfl⟩) (by assumption) ?_
          simp only [Act.put, List.setIfInBounds_toArray, List.set_cons_zero, List.set_cons_succ]
          refine wpAnyH_take (i := 6) (oi := { dst := some 18, op := Op.move (Operand.tmp 17), type := 4, pos := "records.go:34", after := #[{ on := 5, ground := Ground.data }, { on := 3, ground := Ground.chain }, { on := 3, ground := Ground.guard }], guard := some (3, false) }) (v := undef) rfl (by kernel_rfl) (by kernel_rfl) (by kernel_rfl) (fun _ _ _ h => h) (Or.inr ⟨by rfl, by rfl⟩) (by assumption) ?_
          simp only [Act.put, List.setIfInBounds_toArray, List.set_cons_zero, List.set_cons_succ]
          refine wpAnyH_take (i := 7) (oi := { dst := some 19, op := Op.move (Operand.tmp 0), type := 36, pos := "records.go:34", after := #[{ on := 6, ground := Ground.guard }], guard := some (6, true) }) (v := undef) rfl (by kernel_rfl) (by kernel_rfl) (by kernel_rfl) (fun _ _ _ h => h) (Or.inr ⟨by rfl, by rfl⟩) (by assumption) ?_
          simp only [Act.put, List.setIfInBounds_toArray, List.set_cons_zero, List.set_cons_succ]
          refine wpAnyH_take (i := 8) (oi := { dst := some 20, op := Op.move (Operand.tmp 3), type := 3, pos := "records.go:34", after := #[{ on := 6, ground := Ground.guard }], guard := some (6, true) }) (v := undef) rfl (by kernel_rfl) (by kernel_rfl) (by kernel_rfl) (fun _ _ _ h => h) (Or.inr ⟨by rfl, by rfl⟩) (by assumption) ?_
          simp only [Act.put, List.setIfInBounds_toArray, List.set_cons_zero, List.set_cons_succ]
          refine wpAnyH_take (i := 9) (oi := { dst := some 21, op := Op.binOp BinOp.sub 3 (Operand.tmp 20) (Operand.const (Value.int IntKind.i64 1)) 3, type := 3, pos := "records.go:34", after := #[{ on := 8, ground := Ground.data }, { on := 6, ground := Ground.guard }], guard := some (6, true) }) (v := undef) rfl (by kernel_rfl) (by kernel_rfl) (by kernel_rfl) (fun _ _ _ h => h) (Or.inr ⟨by rfl, by rfl⟩) (by assumption) ?_
          simp only [Act.put, List.setIfInBounds_toArray, List.set_cons_zero, List.set_cons_succ]
          refine wpAnyH_take (i := 10) (oi := { dst := some 22, op := Op.indexAddr 36 (Operand.tmp 19) (Operand.tmp 21), type := 0, pos := "records.go:34", after := #[{ on := 7, ground := Ground.data }, { on := 9, ground := Ground.data }, { on := 6, ground := Ground.guard }], guard := some (6, true) }) (v := undef) rfl (by kernel_rfl) (by kernel_rfl) (by kernel_rfl) (fun _ _ _ h => h) (Or.inr ⟨by rfl, by rfl⟩) (by assumption) ?_
          simp only [Act.put, List.setIfInBounds_toArray, List.set_cons_zero, List.set_cons_succ]
          refine wpAnyH_take (i := 11) (oi := { dst := some 23, op := Op.load 70 (Operand.tmp 22), type := 70, pos := "records.go:34", after := #[{ on := 10, ground := Ground.data }, { on := 6, ground := Ground.guard }], guard := some (6, true) }) (v := undef) rfl (by kernel_rfl) (by kernel_rfl) (by kernel_rfl) (fun _ _ _ h => h) (Or.inr ⟨by rfl, by rfl⟩) (by assumption) ?_
          simp only [Act.put, List.setIfInBounds_toArray, List.set_cons_zero, List.set_cons_succ]
          refine wpAnyH_take (i := 12) (oi := { dst := some 24, op := Op.load 70 (Operand.tmp 4), type := 70, pos := "records.go:34", after := #[{ on := 6, ground := Ground.guard }], guard := some (6, true) }) (v := undef) rfl (by kernel_rfl) (by kernel_rfl) (by kernel_rfl) (fun _ _ _ h => h) (Or.inr ⟨by rfl, by rfl⟩) (by assumption) ?_
          simp only [Act.put, List.setIfInBounds_toArray, List.set_cons_zero, List.set_cons_succ]
          refine wpAnyH_take (i := 13) (oi := { dst := some 25, op := Op.call { callee := Callee.value (Operand.func 47), args := #[Operand.tmp 23, Operand.tmp 24], argTypes := #[70, 70] }, type := 3, pos := "records.go:34", after := #[{ on := 11, ground := Ground.data }, { on := 12, ground := Ground.data }, { on := 6, ground := Ground.chain }, { on := 6, ground := Ground.guard }], guard := some (6, true) }) (v := undef) rfl (by kernel_rfl) (by kernel_rfl) (by kernel_rfl) (fun _ _ _ h => h) (Or.inr ⟨by rfl, by rfl⟩) (by assumption) ?_
          simp only [Act.put, List.setIfInBounds_toArray, List.set_cons_zero, List.set_cons_succ]
          refine wpAnyH_take (i := 14) (oi := { dst := some 26, op := Op.binOp BinOp.geq 3 (Operand.tmp 25) (Operand.const (Value.int IntKind.i64 0)) 3, type := 4, pos := "records.go:34", after := #[{ on := 13, ground := Ground.data }, { on := 6, ground := Ground.guard }], guard := some (6, true) }) (v := undef) rfl (by kernel_rfl) (by kernel_rfl) (by kernel_rfl) (fun _ _ _ h => h) (Or.inr ⟨by rfl, by rfl⟩) (by assumption) ?_
          simp only [Act.put, List.setIfInBounds_toArray, List.set_cons_zero, List.set_cons_succ]
          refine wpAnyH_take (i := 15) (oi := { dst := some 27, op := Op.pick (Operand.tmp 18) (Operand.tmp 26) (Operand.const (Value.bool false)), type := 4, pos := "records.go:34", after := #[{ on := 6, ground := Ground.data }, { on := 14, ground := Ground.data }, { on := 3, ground := Ground.guard }], guard := some (3, false) }) (v := undef) rfl (by kernel_rfl) (by kernel_rfl) (by kernel_rfl) (fun _ _ _ h => h) (Or.inr ⟨by rfl, by rfl⟩) (by assumption) ?_
          simp only [Act.put, List.setIfInBounds_toArray, List.set_cons_zero, List.set_cons_succ]
          refine wpAnyH_take (i := 16) (oi := { dst := some 28, op := Op.pick (Operand.tmp 15) (Operand.const (Value.bool true)) (Operand.tmp 27), type := 4, pos := "records.go:34", after := #[{ on := 3, ground := Ground.data }, { on := 15, ground := Ground.data }], guard := none }) (v := ?_) rfl (by kernel_rfl) (by kernel_rfl) (by kernel_rfl) (fun _ _ _ h => h) (Or.inl ⟨by rfl, ?_⟩) (by assumption) ?_
          rotate_left
          · (intro w hSw; (try dsimp only at hSw); go_simp); first | done | with_reducible rfl
          simp only [Act.put, List.setIfInBounds_toArray, List.set_cons_zero, List.set_cons_succ]
          refine wpAnyH_done (by kernel_rfl) ?_ _
          clear hHeld
          go_wp2_with fail
          go_ret
          exact ⟨_, rfl, .inr ⟨rfl, HNo.out⟩, HB1.out.trans (HB2.out.mono HB1.out.size)⟩
      · obtain ⟨j, Hj⟩ : ∃ j, Hid (k = j + 1) := ⟨k - 1, (show k = k - 1 + 1 by omega)⟩
        have hjn : j < n := by have := Hj.out; omega
        have hwj : IntKind.i64.wrap ((k : Int) - 1) = (j : Int) := by rw [IntKind.wrap_i64]; have := Hj.out; omega
        have hk1 : decide (0 < k) = true := by rw [decide_eq_true_iff]; omega
        obtain ⟨ad', e', Aj⟩ := HSr1.out.at j hjn
        obtain rfl := Option.some.inj e'
        have HOj := hide (HSr1.out.okAt j hjn)
        obtain ⟨q, Hq⟩ : ∃ q, Hid (L.getD j rc0 = q) := ⟨_, rfl⟩
        rw [Hq.out] at Aj HOj
        have HAj := hide Aj
        clear Aj e'
        go_wp2_with fail
        clear hst hld
        refine wp_region_held_drew (S := fun v => (ldRe (.pointer (some ⟨gr, 0, none⟩))).run Tryz.prog v = .ok (.agg (ReC (mkR r))) v ∧ (ldRe (.pointer (some (ad.add (j * 3))))).run Tryz.prog v = .ok (.agg (ReC (mkR q))) v) (by kernel_rfl) (⟨run_ldRe (HX.out.below (below_drew1 w1)), run_laRe (HAj.out.on (below_drew1 w1))⟩) (fun hHeld => ?_)
        refine wpAnyH_take (i := 0) (oi := { dst := some 12, op := Op.load 70 (Operand.tmp 4), type := 70, pos := "records.go:34", after := #[], guard := none }) (v := ?_) rfl (by kernel_rfl) (by kernel_rfl) (by kernel_rfl) (fun _ _ _ h => h) (Or.inl ⟨by rfl, ?_⟩) (by assumption) ?_
        rotate_left
        · (intro w hSw; (try dsimp only at hSw); go_simp); first | done | with_reducible rfl
        simp only [Act.put, List.setIfInBounds_toArray, List.set_cons_zero, List.set_cons_succ]
        refine wpAnyH_ready (rs := [1]) (by kernel_rfl) (by simp) ?_
        refine AllReadyH.cons rfl (fun K hK => ?_) ?_
        rotate_left
        · exact AllReadyH.nil
        go_simp
        go_wp2_with fail
        refine (checkRecord_any r _ (HO1.out.below (below_drew1 w1))).mono ?_
        rintro e w2 ⟨x, rfl, hx, b2⟩
        have hB2 : Below w1.heap.size w1 w2 := (below_drew1 w1).trans b2
        have HB2 := hide hB2
        refine hK.out _ _ (⟨run_ldRe (HX.out.below (hB2)), run_laRe (HAj.out.on (hB2))⟩) (fun hHeld => ?_)
        clear hK K b2
        by_cases hx0 : x = 0
        · obtain rfl := hx0
          have HOk : Hid (RecOk (L.getD k rc0)) := by rw [Hr.out]; exact hx.zero.1 rfl
          clear hx
          refine wpAnyH_take (i := 2) (oi := { dst := some 14, op := Op.binOp BinOp.neq 30 (Operand.tmp 13) (Operand.const (Value.int IntKind.i64 0)) 30, type := 4, pos := "records.go:34", after := #[{ on := 1, ground := Ground.data }], guard := none }) (v := ?_) rfl (by kernel_rfl) (by kernel_rfl) (by kernel_rfl) (fun _ _ _ h => h) (Or.inl ⟨by rfl, ?_⟩) (by assumption) ?_
          rotate_left
          · (intro w hSw; (try dsimp only at hSw); go_simp); first | done | with_reducible rfl
          simp only [Act.put, List.setIfInBounds_toArray, List.set_cons_zero, List.set_cons_succ]
          refine wpAnyH_take (i := 3) (oi := { dst := some 15, op := Op.move (Operand.tmp 14), type := 4, pos := "records.go:34", after := #[{ on := 2, ground := Ground.data }, { on := 1, ground := Ground.chain }], guard := none }) (v := ?_) rfl (by kernel_rfl) (by kernel_rfl) (by kernel_rfl) (fun _ _ _ h => h) (Or.inl ⟨by rfl, ?_⟩) (by assumption) ?_
          rotate_left
          · (intro w hSw; (try dsimp only at hSw); go_simp); first | done | with_reducible rfl
          simp only [Act.put, List.setIfInBounds_toArray, List.set_cons_zero, List.set_cons_succ]
          refine wpAnyH_take (i := 4) (oi := { dst := some 16, op := Op.move (Operand.tmp 3), type := 3, pos := "records.go:34", after := #[{ on := 3, ground := Ground.guard }], guard := some (3, false) }) (v := ?_) rfl (by kernel_rfl) (by kernel_rfl) (by kernel_rfl) (fun _ _ _ h => h) (Or.inl ⟨by rfl, ?_⟩) (by assumption) ?_
          rotate_left
          · (intro w hSw; (try dsimp only at hSw); go_simp); first | done | with_reducible rfl
          simp only [Act.put, List.setIfInBounds_toArray, List.set_cons_zero, List.set_cons_succ]
          refine wpAnyH_take (i := 5) (oi := { dst := some 17, op := Op.binOp BinOp.gtr 3 (Operand.tmp 16) (Operand.const (Value.int IntKind.i64 0)) 3, type := 4, pos := "records.go:34", after := #[{ on := 4, ground := Ground.data }, { on := 3, ground := Ground.guard }], guard := some (3, false) }) (v := ?_) rfl (by kernel_rfl) (by kernel_rfl) (by kernel_rfl) (fun _ _ _ h => h) (Or.inl ⟨by rfl, ?_⟩) (by assumption) ?_
          rotate_left
          · (intro w hSw; (try dsimp only at hSw); go_simp); first | done | with_reducible rfl
          simp only [Act.put, List.setIfInBounds_toArray, List.set_cons_zero, List.set_cons_succ]
          refine wpAnyH_take (i := 6) (oi := { dst := some 18, op := Op.move (Operand.tmp 17), type := 4, pos := "records.go:34", after := #[{ on := 5, ground := Ground.data }, { on := 3, ground := Ground.chain }, { on := 3, ground := Ground.guard }], guard := some (3, false) }) (v := ?_) rfl (by kernel_rfl) (by kernel_rfl) (by kernel_rfl) (fun _ _ _ h => h) (Or.inl ⟨by rfl, ?_⟩) (by assumption) ?_
          rotate_left
          · (intro w hSw; (try dsimp only at hSw); go_simp); first | done | with_reducible rfl
          simp only [Act.put, List.setIfInBounds_toArray, List.set_cons_zero, List.set_cons_succ]
          refine wpAnyH_take (i := 7) (oi := { dst := some 19, op := Op.move (Operand.tmp 0), type := 36, pos := "records.go:34", after := #[{ on := 6, ground := Ground.guard }], guard := some (6, true) }) (v := ?_) rfl (by kernel_rfl) (by kernel_rfl) (by kernel_rfl) (fun _ _ _ h => h) (Or.inl ⟨by rfl, ?_⟩) (by assumption) ?_
          rotate_left
          · (intro w hSw; (try dsimp only at hSw); go_simp); first | done | with_reducible rfl
          simp only [Act.put, List.setIfInBounds_toArray, List.set_cons_zero, List.set_cons_succ]
          refine wpAnyH_take (i := 8) (oi := { dst := some 20, op := Op.move (Operand.tmp 3), type := 3, pos := "records.go:34", after := #[{ on := 6, ground := Ground.guard }], guard := some (6, true) }) (v := ?_) rfl (by kernel_rfl) (by kernel_rfl) (by kernel_rfl) (fun _ _ _ h => h) (Or.inl ⟨by rfl, ?_⟩) (by assumption) ?_
          rotate_left
          · (intro w hSw; (try dsimp only at hSw); go_simp); first | done | with_reducible rfl
          simp only [Act.put, List.setIfInBounds_toArray, List.set_cons_zero, List.set_cons_succ]
          refine wpAnyH_take (i := 9) (oi := { dst := some 21, op := Op.binOp BinOp.sub 3 (Operand.tmp 20) (Operand.const (Value.int IntKind.i64 1)) 3, type := 3, pos := "records.go:34", after := #[{ on := 8, ground := Ground.data }, { on := 6, ground := Ground.guard }], guard := some (6, true) }) (v := ?_) rfl (by kernel_rfl) (by kernel_rfl) (by kernel_rfl) (fun _ _ _ h => h) (Or.inl ⟨by rfl, ?_⟩) (by assumption) ?_
          rotate_left
          · (intro w hSw; (try dsimp only at hSw); go_simp); first | done | with_reducible rfl
          simp only [Act.put, List.setIfInBounds_toArray, List.set_cons_zero, List.set_cons_succ]
          refine wpAnyH_take (i := 10) (oi := { dst := some 22, op := Op.indexAddr 36 (Operand.tmp 19) (Operand.tmp 21), type := 0, pos := "records.go:34", after := #[{ on := 7, ground := Ground.data }, { on := 9, ground := Ground.data }, { on := 6, ground := Ground.guard }], guard := some (6, true) }) (v := ?_) rfl (by kernel_rfl) (by kernel_rfl) (by kernel_rfl) (fun _ _ _ h => h) (Or.inl ⟨by rfl, ?_⟩) (by assumption) ?_
          rotate_left
          · (intro w hSw; (try dsimp only at hSw); go_simp); first | done | with_reducible rfl
          simp only [Act.put, List.setIfInBounds_toArray, List.set_cons_zero, List.set_cons_succ]
          refine wpAnyH_take (i := 11) (oi := { dst := some 23, op := Op.load 70 (Operand.tmp 22), type := 70, pos := "records.go:34", after := #[{ on := 10, ground := Ground.data }, { on := 6, ground := Ground.guard }], guard := some (6, true) }) (v := ?_) rfl (by kernel_rfl) (by kernel_rfl) (by kernel_rfl) (fun _ _ _ h => h) (Or.inl ⟨by rfl, ?_⟩) (by assumption) ?_
          rotate_left
          · (intro w hSw; (try dsimp only at hSw); go_simp); first | done | with_reducible rfl
          simp only [Act.put, List.setIfInBounds_toArray, List.set_cons_zero, List.set_cons_succ]
          refine wpAnyH_take (i := 12) (oi := { dst := some 24, op := Op.load 70 (Operand.tmp 4), type := 70, pos := "records.go:34", after := #[{ on := 6, ground := Ground.guard }], guard := some (6, true) }) (v := ?_) rfl (by kernel_rfl) (by kernel_rfl) (by kernel_rfl) (fun _ _ _ h => h) (Or.inl ⟨by rfl, ?_⟩) (by assumption) ?_
          rotate_left
          · (intro w hSw; (try dsimp only at hSw); go_simp); first | done | with_reducible rfl
          simp only [Act.put, List.setIfInBounds_toArray, List.set_cons_zero, List.set_cons_succ]
          refine wpAnyH_ready (rs := [13]) (by kernel_rfl) (by simp) ?_
          refine AllReadyH.cons rfl (fun K hK => ?_) ?_
          rotate_left
          · exact AllReadyH.nil
          go_simp
          go_wp2_with fail
          refine (keepCompare_any q r _ (HOj.out.below hB2) (HO1.out.below hB2)).mono ?_
          rintro e w3 ⟨z, rfl, hz, b3⟩
          have hB3 : Below w1.heap.size w1 w3 := HB2.out.trans (b3.mono HB2.out.size)
          have HB3 := hide hB3
          refine hK.out _ _ (⟨run_ldRe (HX.out.below (hB3)), run_laRe (HAj.out.on (hB3))⟩) (fun hHeld => ?_)
          clear hK K b3 hB2
          by_cases hz0 : (0 : Int) ≤ z
          · have hzb : decide (0 ≤ z) = true := decide_eq_true hz0
            have HNo : Hid (¬ OkR L n) := fun h => by
              have h2 := (h k Hlt.out).2 (by have := Hj.out; omega)
              rw [show k - 1 = j by have := Hj.out; omega, Hr.out, Hq.out] at h2
              obtain ⟨z2, h3, h4⟩ := h2
              have := hz.unique h3
              omega
            clear hz hz0
            refine wpAnyH_take (i := 14) (oi := { dst := some 26, op := Op.binOp BinOp.geq 3 (Operand.tmp 25) (Operand.const (Value.int IntKind.i64 0)) 3, type := 4, pos := "records.go:34", after := #[{ on := 13, ground := Ground.data }, { on := 6, ground := Ground.guard }], guard := some (6, true) }) (v := ?_) rfl (by kernel_rfl) (by kernel_rfl) (by kernel_rfl) (fun _ _ _ h => h) (Or.inl ⟨by rfl, ?_⟩) (by assumption) ?_
            rotate_left
            · (intro w hSw; (try dsimp only at hSw); go_simp); first | done | with_reducible rfl
            simp only [Act.put, List.setIfInBounds_toArray, List.set_cons_zero, List.set_cons_succ]
            refine wpAnyH_take (i := 15) (oi := { dst := some 27, op := Op.pick (Operand.tmp 18) (Operand.tmp 26) (Operand.const (Value.bool false)), type := 4, pos := "records.go:34", after := #[{ on := 6, ground := Ground.data }, { on := 14, ground := Ground.data }, { on := 3, ground := Ground.guard }], guard := some (3, false) }) (v := ?_) rfl (by kernel_rfl) (by kernel_rfl) (by kernel_rfl) (fun _ _ _ h => h) (Or.inl ⟨by rfl, ?_⟩) (by assumption) ?_
            rotate_left
            · (intro w hSw; (try dsimp only at hSw); go_simp); first | done | with_reducible rfl
            simp only [Act.put, List.setIfInBounds_toArray, List.set_cons_zero, List.set_cons_succ]
            refine wpAnyH_take (i := 16) (oi := { dst := some 28, op := Op.pick (Operand.tmp 15) (Operand.const (Value.bool true)) (Operand.tmp 27), type := 4, pos := "records.go:34", after := #[{ on := 3, ground := Ground.data }, { on := 15, ground := Ground.data }], guard := none }) (v := ?_) rfl (by kernel_rfl) (by kernel_rfl) (by kernel_rfl) (fun _ _ _ h => h) (Or.inl ⟨by rfl, ?_⟩) (by assumption) ?_
            rotate_left
            · (intro w hSw; (try dsimp only at hSw); go_simp); first | done | with_reducible rfl
            simp only [Act.put, List.setIfInBounds_toArray, List.set_cons_zero, List.set_cons_succ]
            refine wpAnyH_done (by kernel_rfl) ?_ _
            clear hHeld
            go_wp2_with fail
            go_ret
            exact ⟨_, rfl, .inr ⟨rfl, HNo.out⟩, HB1.out.trans (HB3.out.mono HB1.out.size)⟩
          · have hzb : decide (0 ≤ z) = false := decide_eq_false hz0
            have HLt : Hid (0 < k → LtR (L.getD (k - 1) rc0) (L.getD k rc0)) := fun _ => by
              rw [show k - 1 = j by have := Hj.out; omega, Hr.out, Hq.out]
              exact ⟨z, hz, by omega⟩
            clear hz hz0
            refine wpAnyH_take (i := 14) (oi := { dst := some 26, op := Op.binOp BinOp.geq 3 (Operand.tmp 25) (Operand.const (Value.int IntKind.i64 0)) 3, type := 4, pos := "records.go:34", after := #[{ on := 13, ground := Ground.data }, { on := 6, ground := Ground.guard }], guard := some (6, true) }) (v := ?_) rfl (by kernel_rfl) (by kernel_rfl) (by kernel_rfl) (fun _ _ _ h => h) (Or.inl ⟨by rfl, ?_⟩) (by assumption) ?_
            rotate_left
            · (intro w hSw; (try dsimp only at hSw); go_simp); first | done | with_reducible rfl
            simp only [Act.put, List.setIfInBounds_toArray, List.set_cons_zero, List.set_cons_succ]
            refine wpAnyH_take (i := 15) (oi := { dst := some 27, op := Op.pick (Operand.tmp 18) (Operand.tmp 26) (Operand.const (Value.bool false)), type := 4, pos := "records.go:34", after := #[{ on := 6, ground := Ground.data }, { on := 14, ground := Ground.data }, { on := 3, ground := Ground.guard }], guard := some (3, false) }) (v := ?_) rfl (by kernel_rfl) (by kernel_rfl) (by kernel_rfl) (fun _ _ _ h => h) (Or.inl ⟨by rfl, ?_⟩) (by assumption) ?_
            rotate_left
            · (intro w hSw; (try dsimp only at hSw); go_simp); first | done | with_reducible rfl
            simp only [Act.put, List.setIfInBounds_toArray, List.set_cons_zero, List.set_cons_succ]
            refine wpAnyH_take (i := 16) (oi := { dst := some 28, op := Op.pick (Operand.tmp 15) (Operand.const (Value.bool true)) (Operand.tmp 27), type := 4, pos := "records.go:34", after := #[{ on := 3, ground := Ground.data }, { on := 15, ground := Ground.data }], guard := none }) (v := ?_) rfl (by kernel_rfl) (by kernel_rfl) (by kernel_rfl) (fun _ _ _ h => h) (Or.inl ⟨by rfl, ?_⟩) (by assumption) ?_
            rotate_left
            · (intro w hSw; (try dsimp only at hSw); go_simp); first | done | with_reducible rfl
            simp only [Act.put, List.setIfInBounds_toArray, List.set_cons_zero, List.set_cons_succ]
            refine wpAnyH_done (by kernel_rfl) ?_ _
            clear hHeld
            go_wp2_with fail
            go_roundw
            case rel => exact ⟨k + 1, by omega, by simp, HK.out.snoc HOk.out HLt.out, HB1.out.trans (HB3.out.mono HB1.out.size)⟩
            case measure => simp [intOf]; omega
        · have HNo : Hid (¬ OkR L n) := fun h => hx0 (hx.zero.2 (by have := (h k Hlt.out).1; rw [Hr.out] at this; exact this))
          have hxb : (x != 0) = true := by simpa using hx0
          clear hx hx0
          refine wpAnyH_take (i := 2) (oi := { dst := some 14, op := Op.binOp BinOp.neq 30 (Operand.tmp 13) (Operand.const (Value.int IntKind.i64 0)) 30, type := 4, pos := "records.go:34", after := #[{ on := 1, ground := Ground.data }], guard := none }) (v := ?_) rfl (by kernel_rfl) (by kernel_rfl) (by kernel_rfl) (fun _ _ _ h => h) (Or.inl ⟨by rfl, ?_⟩) (by assumption) ?_
          rotate_left
          · (intro w hSw; (try dsimp only at hSw); go_simp); first | done | with_reducible rfl
          simp only [Act.put, List.setIfInBounds_toArray, List.set_cons_zero, List.set_cons_succ]
          refine wpAnyH_take (i := 3) (oi := { dst := some 15, op := Op.move (Operand.tmp 14), type := 4, pos := "records.go:34", after := #[{ on := 2, ground := Ground.data }, { on := 1, ground := Ground.chain }], guard := none }) (v := ?_) rfl (by kernel_rfl) (by kernel_rfl) (by kernel_rfl) (fun _ _ _ h => h) (Or.inl ⟨by rfl, ?_⟩) (by assumption) ?_
          rotate_left
          · (intro w hSw; (try dsimp only at hSw); go_simp); first | done | with_reducible rfl
          simp only [Act.put, List.setIfInBounds_toArray, List.set_cons_zero, List.set_cons_succ]
          refine wpAnyH_take (i := 4) (oi := { dst := some 16, op := Op.move (Operand.tmp 3), type := 3, pos := "records.go:34", after := #[{ on := 3, ground := Ground.guard }], guard := some (3, false) }) (v := undef) rfl (by kernel_rfl) (by kernel_rfl) (by kernel_rfl) (fun _ _ _ h => h) (Or.inr ⟨by rfl, by rfl⟩) (by assumption) ?_
          simp only [Act.put, List.setIfInBounds_toArray, List.set_cons_zero, List.set_cons_succ]
          refine wpAnyH_take (i := 5) (oi := { dst := some 17, op := Op.binOp BinOp.gtr 3 (Operand.tmp 16) (Operand.const (Value.int IntKind.i64 0)) 3, type := 4, pos := "records.go:34", after := #[{ on := 4, ground := Ground.data }, { on := 3, ground := Ground.guard }], guard := some (3, false) }) (v := undef) rfl (by kernel_rfl) (by kernel_rfl) (by kernel_rfl) (fun _ _ _ h => h) (Or.inr ⟨by rfl, by rfl⟩) (by assumption) ?_
          simp only [Act.put, List.setIfInBounds_toArray, List.set_cons_zero, List.set_cons_succ]
          refine wpAnyH_take (i := 6) (oi := { dst := some 18, op := Op.move (Operand.tmp 17), type := 4, pos := "records.go:34", after := #[{ on := 5, ground := Ground.data }, { on := 3, ground := Ground.chain }, { on := 3, ground := Ground.guard }], guard := some (3, false) }) (v := undef) rfl (by kernel_rfl) (by kernel_rfl) (by kernel_rfl) (fun _ _ _ h => h) (Or.inr ⟨by rfl, by rfl⟩) (by assumption) ?_
          simp only [Act.put, List.setIfInBounds_toArray, List.set_cons_zero, List.set_cons_succ]
          refine wpAnyH_take (i := 7) (oi := { dst := some 19, op := Op.move (Operand.tmp 0), type := 36, pos := "records.go:34", after := #[{ on := 6, ground := Ground.guard }], guard := some (6, true) }) (v := undef) rfl (by kernel_rfl) (by kernel_rfl) (by kernel_rfl) (fun _ _ _ h => h) (Or.inr ⟨by rfl, by rfl⟩) (by assumption) ?_
          simp only [Act.put, List.setIfInBounds_toArray, List.set_cons_zero, List.set_cons_succ]
          refine wpAnyH_take (i := 8) (oi := { dst := some 20, op := Op.move (Operand.tmp 3), type := 3, pos := "records.go:34", after := #[{ on := 6, ground := Ground.guard }], guard := some (6, true) }) (v := undef) rfl (by kernel_rfl) (by kernel_rfl) (by kernel_rfl) (fun _ _ _ h => h) (Or.inr ⟨by rfl, by rfl⟩) (by assumption) ?_
          simp only [Act.put, List.setIfInBounds_toArray, List.set_cons_zero, List.set_cons_succ]
          refine wpAnyH_take (i := 9) (oi := { dst := some 21, op := Op.binOp BinOp.sub 3 (Operand.tmp 20) (Operand.const (Value.int IntKind.i64 1)) 3, type := 3, pos := "records.go:34", after := #[{ on := 8, ground := Ground.data }, { on := 6, ground := Ground.guard }], guard := some (6, true) }) (v := undef) rfl (by kernel_rfl) (by kernel_rfl) (by kernel_rfl) (fun _ _ _ h => h) (Or.inr ⟨by rfl, by rfl⟩) (by assumption) ?_
          simp only [Act.put, List.setIfInBounds_toArray, List.set_cons_zero, List.set_cons_succ]
          refine wpAnyH_take (i := 10) (oi := { dst := some 22, op := Op.indexAddr 36 (Operand.tmp 19) (Operand.tmp 21), type := 0, pos := "records.go:34", after := #[{ on := 7, ground := Ground.data }, { on := 9, ground := Ground.data }, { on := 6, ground := Ground.guard }], guard := some (6, true) }) (v := undef) rfl (by kernel_rfl) (by kernel_rfl) (by kernel_rfl) (fun _ _ _ h => h) (Or.inr ⟨by rfl, by rfl⟩) (by assumption) ?_
          simp only [Act.put, List.setIfInBounds_toArray, List.set_cons_zero, List.set_cons_succ]
          refine wpAnyH_take (i := 11) (oi := { dst := some 23, op := Op.load 70 (Operand.tmp 22), type := 70, pos := "records.go:34", after := #[{ on := 10, ground := Ground.data }, { on := 6, ground := Ground.guard }], guard := some (6, true) }) (v := undef) rfl (by kernel_rfl) (by kernel_rfl) (by kernel_rfl) (fun _ _ _ h => h) (Or.inr ⟨by rfl, by rfl⟩) (by assumption) ?_
          simp only [Act.put, List.setIfInBounds_toArray, List.set_cons_zero, List.set_cons_succ]
          refine wpAnyH_take (i := 12) (oi := { dst := some 24, op := Op.load 70 (Operand.tmp 4), type := 70, pos := "records.go:34", after := #[{ on := 6, ground := Ground.guard }], guard := some (6, true) }) (v := undef) rfl (by kernel_rfl) (by kernel_rfl) (by kernel_rfl) (fun _ _ _ h => h) (Or.inr ⟨by rfl, by rfl⟩) (by assumption) ?_
          simp only [Act.put, List.setIfInBounds_toArray, List.set_cons_zero, List.set_cons_succ]
          refine wpAnyH_take (i := 13) (oi := { dst := some 25, op := Op.call { callee := Callee.value (Operand.func 47), args := #[Operand.tmp 23, Operand.tmp 24], argTypes := #[70, 70] }, type := 3, pos := "records.go:34", after := #[{ on := 11, ground := Ground.data }, { on := 12, ground := Ground.data }, { on := 6, ground := Ground.chain }, { on := 6, ground := Ground.guard }], guard := some (6, true) }) (v := undef) rfl (by kernel_rfl) (by kernel_rfl) (by kernel_rfl) (fun _ _ _ h => h) (Or.inr ⟨by rfl, by rfl⟩) (by assumption) ?_
          simp only [Act.put, List.setIfInBounds_toArray, List.set_cons_zero, List.set_cons_succ]
          refine wpAnyH_take (i := 14) (oi := { dst := some 26, op := Op.binOp BinOp.geq 3 (Operand.tmp 25) (Operand.const (Value.int IntKind.i64 0)) 3, type := 4, pos := "records.go:34", after := #[{ on := 13, ground := Ground.data }, { on := 6, ground := Ground.guard }], guard := some (6, true) }) (v := undef) rfl (by kernel_rfl) (by kernel_rfl) (by kernel_rfl) (fun _ _ _ h => h) (Or.inr ⟨by rfl, by rfl⟩) (by assumption) ?_
          simp only [Act.put, List.setIfInBounds_toArray, List.set_cons_zero, List.set_cons_succ]
          refine wpAnyH_take (i := 15) (oi := { dst := some 27, op := Op.pick (Operand.tmp 18) (Operand.tmp 26) (Operand.const (Value.bool false)), type := 4, pos := "records.go:34", after := #[{ on := 6, ground := Ground.data }, { on := 14, ground := Ground.data }, { on := 3, ground := Ground.guard }], guard := some (3, false) }) (v := undef) rfl (by kernel_rfl) (by kernel_rfl) (by kernel_rfl) (fun _ _ _ h => h) (Or.inr ⟨by rfl, by rfl⟩) (by assumption) ?_
          simp only [Act.put, List.setIfInBounds_toArray, List.set_cons_zero, List.set_cons_succ]
          refine wpAnyH_take (i := 16) (oi := { dst := some 28, op := Op.pick (Operand.tmp 15) (Operand.const (Value.bool true)) (Operand.tmp 27), type := 4, pos := "records.go:34", after := #[{ on := 3, ground := Ground.data }, { on := 15, ground := Ground.data }], guard := none }) (v := ?_) rfl (by kernel_rfl) (by kernel_rfl) (by kernel_rfl) (fun _ _ _ h => h) (Or.inl ⟨by rfl, ?_⟩) (by assumption) ?_
          rotate_left
          · (intro w hSw; (try dsimp only at hSw); go_simp); first | done | with_reducible rfl
          simp only [Act.put, List.setIfInBounds_toArray, List.set_cons_zero, List.set_cons_succ]
          refine wpAnyH_done (by kernel_rfl) ?_ _
          clear hHeld
          go_wp2_with fail
          go_ret
          exact ⟨_, rfl, .inr ⟨rfl, HNo.out⟩, HB1.out.trans (HB2.out.mono HB1.out.size)⟩
    · obtain rfl : k = n := by omega
      go_wp2_with fail
      go_ret
      exact ⟨_, rfl, .inl ⟨rfl, HK.out⟩, HB.out⟩
end Go.Proofs.YtojpjakpcihacaaGreat
