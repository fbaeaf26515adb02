/- RNo RSz -/
import Derived.Test.YtooinnhjeloocaaGreatLp12
namespace Go.Proofs.YtooinnhjeloocaaGreat
open Go.RowKit
attribute [local go_sem ↓] ldR_eq stR_eq
attribute [local go_sem] zero_RC cells_RV RC_size fold_RC
set_option maxRecDepth 100000 in
set_option maxHeartbeats 4000000 in
theorem norm_new (ao : Option Addr) (n cap : Nat) (L : List Rn) (w : World) (hS : RSrc w ao n cap L) :
    Calls Tryz.prog 89 #[.slice ao n cap] w fun e w' => GivesRN w w' e (NormOf L) := by
  have HS := hide hS
  have hn := hS.big
  have HL : Hid (L.length = n) := hS.len
  clear hS
  go_enter Tryz.func89, Tryz.ntmps89
  go_wp2_with fail
  go_loopw [3, 5, 6, 9] (fun v _ _ i wr => ∃ (k : Nat) (ap : Option Addr) (c : Nat) (acc : List Rn), k ≤ n ∧ acc.length ≤ k ∧ v = .slice ap acc.length c ∧ i = .int .i64 k ∧ Hid (acc = clips (L.take k) ∧ OwnR w.heap.size w.heap.size w wr ap c acc)) (fun _ _ _ i _ => n - (intOf i).toNat)
  case atStart => exact ⟨0, none, 0, [], Nat.zero_le _, Nat.le_refl _, rfl, rfl, rfl, OwnR.nil (Below.refl _ _) (Nat.le_refl _) (Nat.le_refl _)⟩
  case round =>
    obtain ⟨k, ap, c, acc, hk, hal, rfl, rfl, H⟩ := hrel
    rename World => w4
    by_cases hlt : k < n
    · obtain ⟨ad, rfl, A0⟩ := (HS.out.below H.out.2.below).at k hlt
      have hld := run_ldR A0
      obtain ⟨r, Hr⟩ : ∃ r, Hid (L.getD k rn0 = r) := ⟨_, rfl⟩
      rw [Hr.out] at hld
      have hkl : k < L.length := by rw [HL.out]; exact hlt
      have HT : Hid (clips (L.take (k + 1)) = acc ++ clips [r]) := by
        show _ = _
        rw [List.take_succ_eq_append_getElem hkl, show L[k] = r by rw [← Hr.out]; simp [List.getD, hkl], H.out.1]
        simp [clips]
      obtain ⟨w5, hst, X5, B5, Z5⟩ := made w4 r w4.heap.size rfl
      have lx := run_ldR X5.at
      have HO5 := hide (H.out.2.later B5)
      clear A0 X5 B5 hkl Z5
      go_wp2_with fail
      refine (clip_any r _).mono ?_
      rintro e w6 ⟨rfl, b6⟩
      have HO6 := hide (HO5.out.later b6)
      clear b6 lx hst hld
      obtain ⟨q, Hq⟩ : ∃ q, Hid (clip r = q) := ⟨_, rfl⟩
      rw [Hq.out]
      obtain ⟨w7, hst, X7, B7, Z7⟩ := made w6 q w6.heap.size rfl
      have HO7 := hide (HO6.out.later B7)
      have lq := run_ldR X7.at
      have c0 := X7.at.c0
      have c1 : w7.cell? ⟨w6.heap.size, 1, none⟩ = some (.int .i64 q.hi) := X7.at.c1
      clear X7 B7 Z7
      by_cases hc : q.lo ≤ q.hi
      · have HN : Hid (clips (L.take (k + 1)) = acc ++ [q]) := by show _ = _; rw [HT.out]; simp [clips, Hq.out, hc]
        go_wp2_with (at_builtin; refine HO7.out.append q _ rfl (by omega) rfl (.tmp 20) (.tmp 22) rfl acc.length rfl rfl rfl ?_; intro g8 c8 w8 O8)
        go_roundw
        case rel => exact ⟨k + 1, some ⟨g8, 0, none⟩, c8, acc ++ [q], by omega, by simp; omega, by simp, by go_num, HN.out.symm, O8⟩
        case measure => simp [intOf]; omega
      · have HN : Hid (clips (L.take (k + 1)) = acc) := by show _ = _; rw [HT.out]; simp [clips, Hq.out, hc]
        go_wp2_with fail
        go_roundw
        case rel => exact ⟨k + 1, ap, c, acc, by omega, by omega, rfl, by go_num, HN.out.symm, HO7.out⟩
        case measure => simp [intOf]; omega
    · obtain rfl : k = n := by omega
      have HE : Hid (acc = clips L) := by show _ = _; rw [H.out.1, List.take_of_length_le (by rw [HL.out]; exact Nat.le_refl _)]
      have HB4 := hide H.out.2.below
      cases ap with
      | none =>
        obtain ⟨S4, _⟩ := H.out.2.src (by omega)
        obtain ⟨e0, rfl⟩ := S4.nil rfl
        rw [e0]
        have hacc : acc = [] := List.eq_nil_of_length_eq_zero e0
        have HN : Hid (∀ m, mem [] m ↔ mem L m) := fun m => by rw [← clips_mem L m, ← HE.out, hacc]
        clear S4 e0 hacc
        go_wp2_with fail
        refine (sort0 none 0 _).mono ?_
        rintro e w5 ⟨rfl, rfl⟩
        go_wp2_with fail
        refine (merge_new none 0 0 [] _ (RSrc.empty _) List.Pairwise.nil (fun x hx => by cases hx)).mono ?_
        rintro e w6 ⟨a6, n6, c6, R6, rfl, S6, b6, f6, p6⟩
        have HF : Hid (GivesRN w w6 (.returned (.slice a6 n6 c6)) (NormOf L)) := ⟨a6, n6, c6, R6, rfl, S6, HB4.out.trans (b6.mono HB4.out.size), (fun ad h => Nat.le_trans HB4.out.size (f6 ad h)), p6.1, fun m => (p6.2 m).trans (HN.out m)⟩
        clear S6 b6 f6 p6
        go_wp2_with fail
        go_ret
        exact HF.out
      | some ap =>
        obtain ⟨M4, hbb, hc1, hc2⟩ := H.out.2.mr
        have HM4 := hide M4
        have HBB := hide hbb
        have HC1 := hide hc1
        have HC2 := hide hc2
        clear M4 hbb hc1 hc2
        obtain ⟨m, hm⟩ : ∃ m, acc.length = m := ⟨_, rfl⟩
        have HM := hide hm
        rw [hm] at hal ⊢
        clear hm
        go_wp2_with fail
        refine (sortFunc_any ap c m acc.toArray _ HM4.out (by rw [List.size_toArray]; exact HM.out) (by omega)).mono ?_
        rintro e w5 ⟨rfl, d5, hp, hs, hz, M5, b5⟩
        have HP := hide hp
        have HSR := hide hs
        have HS5 := hide (M5.rsrc m c hz (by rw [← HM.out]; exact HC1.out) HC2.out (by omega))
        have HB5 : Hid (Below w.heap.size w w5) := HB4.out.trans (b5.mono HBB.out)
        clear hp hs hz M5 b5
        go_wp2_with fail
        refine (merge_new (some ap) m c d5.toList _ HS5.out HSR.out (fun x hx => clips_in L x (by rw [← HE.out]; have := HP.out.mem_iff.1 hx; simpa using this))).mono ?_
        rintro e w6 ⟨a6, n6, c6, R6, rfl, S6, b6, f6, p6⟩
        have HF : Hid (GivesRN w w6 (.returned (.slice a6 n6 c6)) (NormOf L)) := ⟨a6, n6, c6, R6, rfl, S6, HB5.out.trans (b6.mono HB5.out.size), (fun ad h => Nat.le_trans HB5.out.size (f6 ad h)), p6.1, fun m => by
          rw [p6.2 m, ← clips_mem L m, ← HE.out]
          exact mem_congr (fun x => by have := HP.out.mem_iff (a := x); simpa using this) m⟩
        clear S6 b6 f6 p6
        go_wp2_with fail
        go_ret
        exact HF.out
theorem norm_any (ao : Option Addr) (n cap : Nat) (L : List Rn) (w : World) (hS : RSrc w ao n cap L) :
    Calls Tryz.prog 89 #[.slice ao n cap] w fun e w' => GivesR w w' e (NormOf L) := (norm_new ao n cap L w hS).mono fun _ _ h => h.gives
end Go.Proofs.YtooinnhjeloocaaGreat
namespace Go.Proofs.YtooinnhjeloocaaGreat
open Go.RowKit
attribute [local go_sem ↓] ldR_eq stR_eq
attribute [local go_sem] zero_RC cells_RV RC_size fold_RC
theorem RSrc.tail' {w : World} {b o m c : Nat} {r : Rn} {L : List Rn} (h : RSrc w (some ⟨b, o, none⟩) m c (r :: L)) : RSrc w (if c = 1 then some ⟨b, o, none⟩ else some ⟨b, o + 2, none⟩) (m - 1) (c - 1) L := by
  by_cases e : c = 1
  · rw [if_pos e]
    have h1 := h.len
    have h2 := h.cap
    simp at h1
    exact ⟨by omega, fun e => (by cases e), fun ad ha t ht => by omega, by omega, by omega, by omega⟩
  · rw [if_neg e]
    exact h.tail
theorem form_at : ∀ {a : List Rn} {l : Int} (k : Nat), 1 ≤ l → form l a → k < a.length → 1 ≤ (a.getD k rn0).lo ∧ (a.getD k rn0).lo ≤ (a.getD k rn0).hi ∧ (a.getD k rn0).hi ≤ 1000000000
  | r :: a, l, 0, hl, h, _ => by have := h.1; have := h.2.1; have := h.2.2.1; simp [List.getD]; omega
  | r :: a, l, k + 1, hl, h, hk => by
    have := form_at k (l := r.hi + 2) (by have := h.1; have := h.2.1; omega) h.2.2.2 (by simpa using hk)
    simpa [List.getD] using this
/-- how many numbers the set has -/
def SizeOf (A : List Rn) (k : Int) : Prop := ∃ R, NormOf A R ∧ k = sz R
end Go.Proofs.YtooinnhjeloocaaGreat
