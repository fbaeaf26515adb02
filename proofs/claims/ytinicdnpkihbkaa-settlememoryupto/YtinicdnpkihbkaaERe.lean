/- settle.Reach. -/
import Derived.Test.YtinicdnpkihbkaaEKh
import Derived.Test.YtinicdnpkihbkaaEMt
namespace Go.Proofs.Ytinicdnpkihbkaa
open Go.RowKit
variable {w w' w2 w0 wr : World} {g n : Nat} {F : Nat → Sl} {X Y : Nat → List Int} {K J : Nat → Nat → Bool}

theorem madeK (w : World) (J : Nat → Nat → Bool) : ∃ w', (stK (.pointer (some ⟨w.heap.size, 0, none⟩)) (.agg (kA J))).run Try.prog (w.alloc (.cells (kA fun _ _ => false) 55)) = .ok () w' ∧ KBx w' w.heap.size J ∧ Below w.heap.size w w' :=
  ⟨_, run_stK (KBx_new w _), (KBx_new w _).setRow, below_setRow (below_new w _) (Nat.le_refl _)⟩
theorem Mat.after {bo : Option Addr} (h : Mat w0 w g n F X) (i : Nat) (hi : i < n) (a : Ap w w2 (F i).a bo) : w2.cell? ⟨g, i, none⟩ = some (.slice (F i).a (F i).n (F i).c) ∧ w2.frozen? ⟨g, i, none⟩ = false := by
  have hgw : w2.heap[g]? = w.heap[g]? := a.grown.block g h.lt (fun e => (h.ne i hi g e.symm).1 rfl)
  constructor
  · rw [World.cell?_of_block hgw]; exact h.cell i hi
  · obtain ⟨cs, h1, _⟩ := h.box
    rw [h1] at hgw
    simp [World.frozen?, hgw]
/-- the lists of those below k, and the first j of k's own -/
def rch (K : Nat → Nat → Bool) (n k j : Nat) : Nat → List Int := fun i => if i < k then rl (K i) n else if i = k then rl (K i) j else []
theorem rch_next (K : Nat → Nat → Bool) (n k i : Nat) : rch K n k n i = rch K n (k + 1) 0 i := by
  unfold rch
  by_cases h1 : i < k
  · rw [if_pos h1, if_pos (by omega)]
  · by_cases h2 : i = k
    · rw [if_neg h1, if_pos h2, if_pos (by omega)]
    · rw [if_neg h1, if_neg h2, if_neg (by omega)]
      split <;> rfl
theorem rch_up (K : Nat → Nat → Bool) (n k j i : Nat) (h : K k j = true) : Xup (rch K n k j) k (rch K n k j k ++ [(j : Int)]) i = rch K n k (j + 1) i := by
  unfold Xup rch
  by_cases h2 : i = k
  · subst h2
    rw [if_pos rfl, if_neg (by omega), if_pos rfl, if_neg (by omega), if_pos rfl, rl, if_pos h]
  · rw [if_neg h2]
    by_cases h1 : i < k
    · rw [if_pos h1, if_pos h1]
    · rw [if_neg h1, if_neg h2, if_neg h1, if_neg h2]
theorem rch_same (K : Nat → Nat → Bool) (n k j i : Nat) (h : K k j = false) : rch K n k j i = rch K n k (j + 1) i := by
  unfold rch
  by_cases h2 : i = k
  · subst h2
    rw [if_neg (by omega), if_pos rfl, if_neg (by omega), if_pos rfl, rl, if_neg (by rw [h]; simp)]
  · by_cases h1 : i < k
    · rw [if_pos h1, if_pos h1]
    · rw [if_neg h1, if_neg h2, if_neg h1, if_neg h2]
theorem rch_len (K : Nat → Nat → Bool) (n k j i : Nat) (hj : j ≤ n) : (rch K n k j i).length ≤ n := by
  unfold rch
  split
  · exact rl_len _ _
  · split
    · exact Nat.le_trans (rl_len _ _) hj
    · simp
/-- what Reach answers -/
def RcA (w w' : World) (n : Nat) (L : List Pr) (e : Ending) : Prop := ∃ (g : Nat) (F : Nat → Sl), e = .returned (.slice (some ⟨g, 0, none⟩) n n) ∧ Mat w w' g n F (fun i => rl (knw n L i) n)
attribute [local go_sem ↓] ldK_eq stK_eq
set_option maxRecDepth 100000 in
theorem reach_any (r : Int) (ao : Option Addr) (m c : Nat) (L : List Pr) (w : World) (S : PSrc w ao m c L) (hm : m ≤ 140737488355328) : Calls Try.prog 11 #[.int .i64 r, .slice ao m c] w fun e w' => RcA w w' (clN r) L e := by
  have HC := hide (clamped_any r)
  have hn := (clN_le r).2
  obtain ⟨n, hnn⟩ : ∃ n, clN r = n := ⟨_, rfl⟩
  rw [hnn] at HC hn ⊢
  clear hnn
  have HBe := hide (behind_any n hn ao m c L w S hm)
  obtain ⟨K, hK⟩ : ∃ K, knw n L = K := ⟨_, rfl⟩
  have HE : Hid (∀ (w' : World) (e : Ending) (g : Nat) (F : Nat → Sl), e = .returned (.slice (some ⟨g, 0, none⟩) n n) → Mat w w' g n F (fun i => rl (K i) n) → RcA w w' n L e) := fun w' e g F h1 h2 => by
    unfold RcA
    rw [hK]
    exact ⟨g, F, h1, h2⟩
  rw [hK] at HBe
  clear hK S
  have hz := zeroK
  go_enter Try.func11, Try.ntmps11
  go_wp2_with (first
    | (go_at_call 20; refine (HC.out _).mono ?_; rintro e w2 ⟨rfl, rfl⟩)
    | (go_at_call 24; refine HBe.out.mono ?_; rintro e w1 ⟨rfl, b1⟩; obtain ⟨w2, hst, hkb, hbl⟩ := madeK w1 K; have HK2 := hide hkb; have HB2 := hide (b1.trans (hbl.mono b1.size)); obtain ⟨gk, hgk⟩ : ∃ gk, w1.heap.size = gk := ⟨_, rfl⟩; rw [hgk] at hst HK2; clear hkb hbl b1; obtain ⟨w3, hmk, hmt⟩ := mat_make n hn w2; have HM3 := hide hmt; clear hmt; obtain ⟨g, hg⟩ : ∃ g, w2.heap.size = g := ⟨_, rfl⟩; rw [hg] at hmk HM3))
  clear hz hst hmk hgk hg
  go_loopw [19] (fun i wr => ∃ (k : Nat) (F : Nat → Sl), k ≤ n ∧ i = .int .i64 k ∧ Hid (Mat w2 wr g n F (rch K n k 0))) (fun i _ => n - (intOf i).toNat)
  case atStart => exact ⟨0, _, Nat.zero_le _, rfl, HM3.out.congr fun i hi => by unfold rch; rw [if_neg (by omega)]; split <;> rfl⟩
  case round =>
    clear HM3
    obtain ⟨k, F, hk, rfl, HM⟩ := hrel
    by_cases hlt : k < n
    · go_wp2_with fail
      go_loopw [23] (fun i wr => ∃ (j : Nat) (F : Nat → Sl), j ≤ n ∧ i = .int .i64 j ∧ Hid (Mat w2 wr g n F (rch K n k j))) (fun i _ => n - (intOf i).toNat)
      case atStart => exact ⟨0, F, Nat.zero_le _, rfl, HM⟩
      case round =>
        clear HM
        obtain ⟨j, F, hj, rfl, HM⟩ := hrel
        by_cases hl2 : j < n
        · have hk' : (k : Int) < 16 := by omega
          have hj' : (j : Int) < 16 := by omega
          have hKx := HK2.out.below HM.out.bel
          have c0 := hKx.cell k j (by omega) (by omega)
          clear hKx
          cases hx : K k j
          · rw [hx] at c0
            have HM2 := hide (HM.out.congr (fun i _ => rch_same K n k j i hx))
            clear hx HM
            go_wp2_with fail
            go_roundw
            case rel => exact ⟨j + 1, F, by omega, by go_num, HM2⟩
            case measure => simp [intOf]; omega
          · rw [hx] at c0
            have HX : Hid (∀ i, Xup (rch K n k j) k (rch K n k j k ++ [(j : Int)]) i = rch K n k (j + 1) i) := fun i => rch_up K n k j i hx
            have cF := HM.out.cell k hlt
            have HR := hide (HM.out.row k hlt)
            have HN : Hid ((F k).n + 1 ≤ 17592186044316) := by
              show _ ≤ _
              have h1 := HR.out.len
              have h2 := rch_len K n k j k hj
              omega
            obtain ⟨s, hs⟩ : ∃ s, F k = s := ⟨_, rfl⟩
            obtain ⟨fa, fn, fc⟩ := s
            have HA : Hid (∀ (w3 : World) (bo : Option Addr), Ap wr w3 fa bo → w3.cell? ⟨g, k, none⟩ = some (.slice fa fn fc) ∧ w3.frozen? ⟨g, k, none⟩ = false) := fun w3 bo a => by have := HM.out.after k hlt (bo := bo) (w2 := w3) (by rw [hs]; exact a); rw [hs] at this; exact this
            have HG : Hid (∀ (w3 : World) (bo : Option Addr) (c2 : Nat), IR w3 bo (fn + 1) c2 (rch K n k j k ++ [(j : Int)]) → Ap wr w3 fa bo → Mat w2 (w3.setCell ⟨g, k, none⟩ (.slice bo (fn + 1) c2)) g n (Fup F k ⟨bo, fn + 1, c2⟩) (rch K n k (j + 1))) := fun w3 bo c2 r a => (HM.out.grow k hlt r (by rw [hs]; exact a)).congr fun i _ => HX.out i
            rw [hs] at cF HR HN
            simp only at cF HR HN
            clear hs hx HM HX
            go_wp2_with (at_builtin; refine HR.out.app1 (j : Int) HN.out rfl (.tmp 36) (.tmp 38) rfl rfl rfl ?_; intro b4 c4 w4 R4 A4; obtain ⟨d0, d1⟩ := HA.out w4 b4 A4; have HM4 := hide (HG.out w4 b4 c4 R4 A4); clear R4 A4)
            go_roundw
            case rel => exact ⟨j + 1, _, by omega, by go_num, HM4⟩
            case measure => simp [intOf]; omega
        · obtain rfl : j = n := by omega
          go_wp2_with fail
          go_roundw
          case rel => exact ⟨k + 1, F, by omega, by go_num, HM.out.congr fun i _ => rch_next K j k i⟩
          case measure => simp [intOf]; omega
    · obtain rfl : k = n := by omega
      go_wp2_with fail
      go_ret
      exact HE.out _ _ _ _ rfl ((HM.out.congr fun i hi => by unfold rch; rw [if_pos hi]).pre HB2.out)
end Go.Proofs.Ytinicdnpkihbkaa
