/- typed: its contract. -/
import Derived.Test.YtakeckpfblinpaaCoPlain
import Derived.Deep.DeepCutAuto
namespace Go.Proofs.Ytakeckpfblinpaa
open Go.RowKit

/-- the numbers of an argument of type []int, nil or not -/
def Src (w : World) (ao : Option Addr) (m : Nat) (Z : List Int) : Prop :=
  Z.length = m ∧ (0 < m → ∃ b off, ao = some ⟨b, off, none⟩ ∧ b < w.heap.size ∧ ∀ t, t < m → w.cell? ⟨b, off + t, none⟩ = some (.int .i64 (Z.getD t 0)))
/-- how the i-th byte is typed -/
def kAt (Z : List Int) (i : Nat) : Int := if i < Z.length then bits BinOp.and IntKind.i64 (Z.getD i 0) 7 else 0

/-- what is typed of the first j bytes -/
def txt (l : List UInt8) (Z : List Int) (j : Nat) : List UInt8 := [32, 9] ++ body l (kAt Z) j
def typedL (l : List UInt8) (Z : List Int) : List UInt8 := txt l Z l.length ++ [47, 32]
theorem txt_len (l : List UInt8) (Z : List Int) (j : Nat) : (txt l Z j).length ≤ 2 * j + 2 := by
  unfold txt; have := body_len l (kAt Z) j; simp only [List.length_append, List.length_cons, List.length_nil]; omega
theorem txt_succ (l : List UInt8) (Z : List Int) (j : Nat) : txt l Z (j + 1) = txt l Z j ++ pc (kAt Z j) (l.getD j 0) := by
  unfold txt; rw [body, List.append_assoc]
theorem lt_iff (c : UInt8) : lt c = true ↔ 65 ≤ (c.toNat : Int) ∧ (c.toNat : Int) ≤ 90 := by simp [lt]

set_option maxRecDepth 100000 in
set_option maxHeartbeats 4000000 in
theorem typed_any (s : ByteArray) (ao : Option Addr) (m cp : Nat) (Z : List Int) (w : World) (hs : s.size ≤ 24) (hZ : Src w ao m Z) :
    Calls Try.prog 10 #[.string s, .slice ao m cp] w fun e w' => e = .returned (.string (bs (typedL s.data.toList Z))) ∧ Below w.heap.size w w' := by
  have HZ := hide hZ
  clear hZ
  go_enter Try.func10, Try.ntmps10
  go_wp2
  have hO : Own w.heap.size w.heap.size w (w.alloc (.cells #[.int .u8 32, .int .u8 9] 5)) (some ⟨w.heap.size, 0, none⟩) 2 [32, 9] := by
    refine ⟨⟨rfl, .inr ⟨w.heap.size, 2, _, rfl, Nat.le_refl _, heap_alloc_new w _, Nat.le_refl _, by unfold maxLen; omega, rfl, rfl⟩⟩, (Below.refl _ _).alloc (Nat.le_refl _) _, by simp, Nat.le_refl _⟩
  go_loopw [5, 6] (fun v i wr => ∃ (j : Nat) (ap : Option Addr) (cap : Nat), j ≤ s.size ∧ v = .slice ap (txt s.data.toList Z j).length cap ∧ i = .int .i64 j ∧ Own w.heap.size w.heap.size w wr ap cap (txt s.data.toList Z j)) (fun _ i _ => s.size - (intOf i).toNat)
  case atStart => exact ⟨0, _, _, Nat.zero_le _, rfl, rfl, hO⟩
  case round =>
    clear hO
    obtain ⟨j, ap, cap, hj, rfl, rfl, O⟩ := hrel
    obtain ⟨acc, hacc⟩ : ∃ acc, txt s.data.toList Z j = acc := ⟨_, rfl⟩
    have hal : acc.length ≤ 100 := by rw [← hacc]; have := txt_len s.data.toList Z j; omega
    by_cases hlt : j < s.size
    · obtain ⟨c, hcE⟩ : ∃ c, s[j] = c := ⟨_, rfl⟩
      obtain ⟨k, HK⟩ : ∃ k, Hid (kAt Z j = k) := ⟨_, rfl⟩
      have HN : Hid (txt s.data.toList Z (j + 1) = acc ++ pc k c) := by
        show _ = _
        rw [txt_succ, hacc, getD_at s j hlt, hcE, HK.out]
      rw [hacc] at O ⊢
      clear hacc
      go_upto_if 19 with fail
      go_cut [7] (fun q wx => q = .int .i64 k ∧ wx = wr)
      case first =>
        by_cases hjm : j < m
        · obtain ⟨b, off, rfl, hb, hcells⟩ := HZ.out.2 (by omega)
          have hcell : wr.cell? ⟨b, off + j, none⟩ = some (.int .i64 (Z.getD j 0)) := (O.below.cell hb).trans (hcells j hjm)
          obtain ⟨z, hz⟩ : ∃ z, Z.getD j 0 = z := ⟨_, rfl⟩
          have hk : bits BinOp.and IntKind.i64 z 7 = k := by rw [← HK.out, ← hz]; unfold kAt; rw [if_pos (by rw [HZ.out.1]; exact hjm)]
          rw [hz] at hcell
          clear hcells hz
          go_wp2
          go_meet
          case rel => exact ⟨by first | rfl | rw [hk], rfl⟩
        · have hk : k = 0 := by rw [← HK.out]; unfold kAt; rw [if_neg (by rw [HZ.out.1]; exact hjm)]
          subst hk
          go_wp2
          go_meet
          case rel => exact ⟨rfl, rfl⟩
      case rest =>
        obtain ⟨rfl, rfl⟩ := hcut
        by_cases hl : lt c = true
        · have hlb := (lt_iff c).1 hl
          have n45 : ¬ (c.toNat : Int) = 45 := by omega
          have n46 : ¬ (c.toNat : Int) = 46 := by omega
          have e45 : ((c.toNat : Int) == 45) = false := by simpa using n45
          have e46 : ((c.toNat : Int) == 46) = false := by simpa using n46
          have m45 : c ≠ 45 := fun h => n45 (by rw [h]; rfl)
          have m46 : c ≠ 46 := fun h => n46 (by rw [h]; rfl)
          by_cases hk : 2 < k
          · have HP : Hid (pc k c = [c + 32]) := by show _ = _; unfold pc; rw [if_pos ⟨hl, hk⟩]
            have HC : Hid (#[Value.int .u8 ((c.toNat : Int) + 32)] = ([c + 32].map V8).toArray) := by
              show _ = _
              have : (c + 32).toNat = c.toNat + 32 := by rw [UInt8.toNat_add]; show (c.toNat + 32) % 256 = _; omega
              simp only [List.map_cons, List.map_nil, V8, this]; rfl
            clear hl m45 m46 n45 n46
            go_wp2_with (at_builtin; refine O.append [c + 32] _ HC.out (by simp) (by simp; omega) rfl (.tmp 75) (.tmp 77) rfl acc.length rfl rfl 1 rfl rfl ?_; intro g4 c4 w4 O4 hk4)
            go_roundw
            case rel => exact ⟨j + 1, some ⟨g4, 0, none⟩, c4, by omega, by rw [HN.out, HP.out]; simp, by go_num, by rw [HN.out, HP.out]; exact O4⟩
            case measure => simp [intOf]; omega
          · have HP : Hid (pc k c = [c]) := by show _ = _; unfold pc; rw [if_neg (fun h => hk h.2), if_neg (fun h => m45 h.1), if_neg (fun h => m45 h.1), if_neg (fun h => m45 h.1), if_neg (fun h => m46 h.1)]
            clear hl m45 m46 n45 n46
            go_wp2_with (at_builtin; refine O.append [c] _ rfl (by simp) (by simp; omega) rfl (.tmp 75) (.tmp 77) rfl acc.length rfl rfl 1 rfl rfl ?_; intro g4 c4 w4 O4 hk4)
            go_roundw
            case rel => exact ⟨j + 1, some ⟨g4, 0, none⟩, c4, by omega, by rw [HN.out, HP.out]; simp, by go_num, by rw [HN.out, HP.out]; exact O4⟩
            case measure => simp [intOf]; omega
        · by_cases h45 : c = 45
          · subst h45
            by_cases k1 : k = 1
            · subst k1
              have HP : Hid (pc 1 45 = [95]) := by show _ = _; decide
              clear hl
              go_wp2_with (at_builtin; refine O.append [95] _ rfl (by simp) (by simp; omega) rfl (.tmp 75) (.tmp 77) rfl acc.length rfl rfl 1 rfl rfl ?_; intro g4 c4 w4 O4 hk4)
              go_roundw
              case rel => exact ⟨j + 1, some ⟨g4, 0, none⟩, c4, by omega, by rw [HN.out, HP.out]; simp, by go_num, by rw [HN.out, HP.out]; exact O4⟩
              case measure => simp [intOf]; omega
            · by_cases k2 : k = 2
              · subst k2
                have HP : Hid (pc 2 45 = [47]) := by show _ = _; decide
                clear hl
                go_wp2_with (at_builtin; refine O.append [47] _ rfl (by simp) (by simp; omega) rfl (.tmp 75) (.tmp 77) rfl acc.length rfl rfl 1 rfl rfl ?_; intro g4 c4 w4 O4 hk4)
                go_roundw
                case rel => exact ⟨j + 1, some ⟨g4, 0, none⟩, c4, by omega, by rw [HN.out, HP.out]; simp, by go_num, by rw [HN.out, HP.out]; exact O4⟩
                case measure => simp [intOf]; omega
              · have e1 : (k == 1) = false := by simpa using k1
                have e2 : (k == 2) = false := by simpa using k2
                by_cases k3 : 3 < k
                · have HP : Hid (pc k 45 = [32, 45]) := by show _ = _; unfold pc; rw [if_neg (fun h => hl h.1), if_neg (fun h => k1 h.2), if_neg (fun h => k2 h.2), if_pos ⟨rfl, k3⟩]
                  clear hl k1 k2
                  go_wp2_with (first | (at_builtin; refine O.append [32] _ rfl (by simp) (by simp; omega) rfl (.tmp 62) (.tmp 63) rfl acc.length rfl rfl 1 rfl rfl ?_; intro g3 c3 w3 O3 hk3) | (at_builtin; refine O3.append [45] _ rfl (by simp) (by simp; omega) rfl (.tmp 75) (.tmp 77) rfl (acc.length + 1) (by simp) rfl 1 rfl rfl ?_; intro g4 c4 w4 O4 hk4))
                  go_roundw
                  case rel => exact ⟨j + 1, some ⟨g4, 0, none⟩, c4, by omega, by rw [HN.out, HP.out]; simp, by go_num, by rw [HN.out, HP.out]; simpa using O4⟩
                  case measure => simp [intOf]; omega
                · have HP : Hid (pc k 45 = [45]) := by show _ = _; unfold pc; rw [if_neg (fun h => hl h.1), if_neg (fun h => k1 h.2), if_neg (fun h => k2 h.2), if_neg (fun h => k3 h.2), if_neg (fun h => k3 h.2)]
                  clear hl k1 k2
                  go_wp2_with (at_builtin; refine O.append [45] _ rfl (by simp) (by simp; omega) rfl (.tmp 75) (.tmp 77) rfl acc.length rfl rfl 1 rfl rfl ?_; intro g4 c4 w4 O4 hk4)
                  go_roundw
                  case rel => exact ⟨j + 1, some ⟨g4, 0, none⟩, c4, by omega, by rw [HN.out, HP.out]; simp, by go_num, by rw [HN.out, HP.out]; exact O4⟩
                  case measure => simp [intOf]; omega
          · by_cases h46 : c = 46
            · subst h46
              by_cases k3 : 3 < k
              · have HP : Hid (pc k 46 = [45, 46]) := by show _ = _; unfold pc; rw [if_neg (fun h => hl h.1), if_neg (fun h => h45 h.1), if_neg (fun h => h45 h.1), if_neg (fun h => h45 h.1), if_pos ⟨rfl, k3⟩]
                clear hl h45
                go_wp2_with (first | (at_builtin; refine O.append [45] _ rfl (by simp) (by simp; omega) rfl (.tmp 72) (.tmp 73) rfl acc.length rfl rfl 1 rfl rfl ?_; intro g3 c3 w3 O3 hk3) | (at_builtin; refine O3.append [46] _ rfl (by simp) (by simp; omega) rfl (.tmp 75) (.tmp 77) rfl (acc.length + 1) (by simp) rfl 1 rfl rfl ?_; intro g4 c4 w4 O4 hk4))
                go_roundw
                case rel => exact ⟨j + 1, some ⟨g4, 0, none⟩, c4, by omega, by rw [HN.out, HP.out]; simp, by go_num, by rw [HN.out, HP.out]; simpa using O4⟩
                case measure => simp [intOf]; omega
              · have HP : Hid (pc k 46 = [46]) := by show _ = _; unfold pc; rw [if_neg (fun h => hl h.1), if_neg (fun h => h45 h.1), if_neg (fun h => h45 h.1), if_neg (fun h => h45 h.1), if_neg (fun h => k3 h.2)]
                clear hl h45
                go_wp2_with (at_builtin; refine O.append [46] _ rfl (by simp) (by simp; omega) rfl (.tmp 75) (.tmp 77) rfl acc.length rfl rfl 1 rfl rfl ?_; intro g4 c4 w4 O4 hk4)
                go_roundw
                case rel => exact ⟨j + 1, some ⟨g4, 0, none⟩, c4, by omega, by rw [HN.out, HP.out]; simp, by go_num, by rw [HN.out, HP.out]; exact O4⟩
                case measure => simp [intOf]; omega
            · have HP : Hid (pc k c = [c]) := by show _ = _; unfold pc; rw [if_neg (fun h => hl h.1), if_neg (fun h => h45 h.1), if_neg (fun h => h45 h.1), if_neg (fun h => h45 h.1), if_neg (fun h => h46 h.1)]
              have e45 : ((c.toNat : Int) == 45) = false := by
                have : ¬ (c.toNat : Int) = ((45 : UInt8).toNat : Int) := fun h => h45 ((u8_eq_iff _ _).2 h)
                simpa using this
              have e46 : ((c.toNat : Int) == 46) = false := by
                have : ¬ (c.toNat : Int) = ((46 : UInt8).toNat : Int) := fun h => h46 ((u8_eq_iff _ _).2 h)
                simpa using this
              by_cases a1 : 65 ≤ (c.toNat : Int)
              · have a2 : ¬ (c.toNat : Int) ≤ 90 := fun h => hl ((lt_iff c).2 ⟨a1, h⟩)
                clear hl h45 h46
                go_wp2_with (at_builtin; refine O.append [c] _ rfl (by simp) (by simp; omega) rfl (.tmp 75) (.tmp 77) rfl acc.length rfl rfl 1 rfl rfl ?_; intro g4 c4 w4 O4 hk4)
                go_roundw
                case rel => exact ⟨j + 1, some ⟨g4, 0, none⟩, c4, by omega, by rw [HN.out, HP.out]; simp, by go_num, by rw [HN.out, HP.out]; exact O4⟩
                case measure => simp [intOf]; omega
              · clear hl h45 h46
                go_wp2_with (at_builtin; refine O.append [c] _ rfl (by simp) (by simp; omega) rfl (.tmp 75) (.tmp 77) rfl acc.length rfl rfl 1 rfl rfl ?_; intro g4 c4 w4 O4 hk4)
                go_roundw
                case rel => exact ⟨j + 1, some ⟨g4, 0, none⟩, c4, by omega, by rw [HN.out, HP.out]; simp, by go_num, by rw [HN.out, HP.out]; exact O4⟩
                case measure => simp [intOf]; omega
    · have hje : j = s.size := by omega
      subst hje
      have HT : Hid (typedL s.data.toList Z = acc ++ [47, 32]) := by show _ = _; unfold typedL; rw [len_at, hacc]
      rw [hacc] at O ⊢
      clear hacc
      go_wp2_with (at_builtin; refine O.append [47, 32] _ rfl (by simp) (by simp; omega) rfl (.tmp 79) (.tmp 80) rfl acc.length rfl rfl 2 rfl rfl ?_; intro g4 c4 w4 O4 hk4; have htx := O4.text (acc.length + 2) (by simp))
      go_ret
      exact ⟨by rw [HT.out]; rfl, O4.below⟩
end Go.Proofs.Ytakeckpfblinpaa
