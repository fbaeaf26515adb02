/- slices.Grow of nil, slices.Concat of two lists of entries: their contracts. -/
import Derived.Test.YtmhdhedjeaaciaaLSo2
import Derived.Test.YtmhdhedjeaaciaaLShg
import Derived.Laws.AppendOwnNone
import Derived.Deep.LoopGhost
namespace Go.Proofs.Ytmhdhedjeaaciaa
open Go.RowKit Go.Lib

theorem zc_size (n : Nat) : (Builtin.zeroCells (EC en0) n).size = n * 4 := by simp [Builtin.zeroCells, EC_size]
theorem below_drew1 (w : World) : Below w.heap.size w w.drew := ⟨rfl, rfl, rfl, Nat.le_refl _, fun _ _ => rfl⟩
theorem grow_nil (n : Nat) (w : World) (hn : n ≤ 3518437208883) : Calls Try.prog 58 #[.slice none 0 0, .int .i64 n] w fun e w' => ∃ ao c, e = .returned (.slice ao 0 c) ∧ OwnE w.heap.size w.heap.size w w' ao c [] := by
  by_cases h0 : n = 0
  · subst h0
    refine Calls.mono (Any8.slices_Grow_room Try.growEn none 0 0 0 w (Nat.le_refl _) (by omega) (by omega) (Nat.le_refl _)) ?_
    rintro e w' ⟨rfl, rfl⟩
    exact ⟨none, 0, rfl, OwnE.nil (Below.refl _ _) (Nat.le_refl _) (Nat.le_refl _)⟩
  · obtain ⟨i0, hi, hz0, hz1, hz2⟩ := info_parts info28
    have h := Any8.slices_Grow_grow Try.growEn i0 _ hi hz0 (by rw [hz1]; omega) none 0 0 n [] w (Nat.le_refl _) (by omega) (by rw [hz2]; omega) (by omega) (by simp) (fun _ => rfl) (fun a ha => by cases ha)
    rw [show Try.growEn_ren.t 25 = 40 from rfl] at h
    refine Calls.mono h ?_
    rintro e w' ⟨rfl, rfl⟩
    have hge := grownCap_ge w (0 + n) 0 40
    have hle := grownCap_le_maxLen w (0 + n) 0 40 (by unfold maxLen; omega)
    refine ⟨some ⟨w.heap.size, 0, none⟩, grownCap w (0 + n) 0 40, rfl, ⟨rfl, Or.inr ⟨w.heap.size, grownCap w (0 + n) 0 40, _, rfl, Nat.le_refl _, heap_alloc_new w.drew _, Nat.zero_le _, hle, ?_, by simp [ecs]⟩⟩, (below_drew1 w).trans ((below_new w.drew _).mono (Nat.le_refl _)), by simp, Nat.le_refl _⟩
    have hc : (Value.agg #[.int .i64 0, .int .i64 0, .string ⟨#[]⟩, .int .i64 0]).cells = EC en0 := by simp [Value.cells]; rfl
    rw [hc]
    simp only [Array.size_append, zc_size]
    rw [Nat.zero_add] at hge ⊢
    simp
    omega
/-- a whole row appended -/
theorem OwnE.appendAll {B0 B : Nat} {w w' : World} {ao : Option Addr} {cap : Nat} {acc : List En} (O : OwnE B0 B w w' ao cap acc) (bo : Option Addr) (m c : Nat) (R : List En) (hR : ESrc w' bo m c R) (hlen : acc.length + m ≤ 3518437208883)
    {ops : Array Oper} {rest : List Oper} {o : Oper} {a : Act} {Q : Exit → Act → World → Prop} (hgd : o.guard = none) (s x : Operand) (ho : o.op = .call { callee := .builtin .append, args := #[s, x], argTypes := #[22, 22] })
    (n : Nat) (hn : acc.length = n) (hs : a.eval s = .slice ao n cap) (hx : a.eval x = .slice bo m c)
    (hK : ∀ (ap : Option Addr) (cap2 : Nat) (w2 : World), OwnE B0 B w w2 ap cap2 (acc ++ R) → wpList Try.prog ops Q rest (a.put o.dst (.slice ap (n + m) cap2)) w2) :
    wpList Try.prog ops Q (o :: rest) a w' := by
  subst hn
  obtain ⟨i0, hi, hz0, hz1, hz2⟩ := info_parts info28
  have hB := O.hB
  have hB0 := O.hB0
  cases bo with
  | none =>
    obtain ⟨rfl, rfl⟩ := hR.2.1 rfl
    obtain rfl : R = [] := List.eq_nil_of_length_eq_zero hR.1
    refine wpList_append_own_none hgd s x 22 ho B 40 i0 4 Try.underlying22 hi _ acc.length (ecs acc) hs O.own hx ?_
    have := hK ao cap w' (by rw [List.append_nil]; exact O)
    exact this
  | some ad =>
    refine wpList_append_own _ hgd s x 22 ho B 40 i0 (.agg #[.int .i64 0, .int .i64 0, .string ⟨#[]⟩, .int .i64 0]) 4 40 Try.underlying22 hi hz0 hz1 hz2 rfl (by decide) _ acc.length (ecs acc) hs O.own ad m c (ecs R) hx (by rw [ecs_length, hR.1]) (fun j u hj => hR.cells j u hj) (ecs_onecell R) (by unfold maxLen; omega) (by omega) hB ?_
    intro v' w2 hown hgrow _
    have hrow : ∀ k, (Value.slice ao acc.length cap).ownBlock = some k → B ≤ k := fun k hk => (O.own.lt k hk).1
    have hsz := hgrow.size
    have hbel : Below B0 w w2 := O.below.grown hgrow (by omega) (fun k hk => by have := hrow k hk; omega)
    have hm : m = R.length := hR.1.symm
    have hown2 : w2.ownsRow B 40 4 v' (acc ++ R).length (ecs (acc ++ R)) := by rw [List.length_append, ecs_append, ← hm]; exact hown
    rcases hown.2 with ⟨h0, h00⟩ | ⟨g, cap2, cur, hv, r⟩
    · subst h0
      have e0 : acc.length + m = 0 := h00
      have := hK none 0 w2 ⟨by rw [List.length_append, ← hm, e0] at hown2; rw [List.length_append, ← hm, e0]; exact hown2, hbel, by omega, hB0⟩
      rwa [e0] at this
    · subst hv
      exact hK (some ⟨g, 0, none⟩) cap2 w2 ⟨by rw [List.length_append, ← hm] at hown2 ⊢; exact hown2, hbel, by omega, hB0⟩
set_option maxRecDepth 100000 in
set_option maxHeartbeats 4000000 in
theorem concat_any (gb : Nat) (ao bo : Option Addr) (n cap m cap' : Nat) (L R : List En) (w : World) (hS : ESrc w ao n cap L) (hR : ESrc w bo m cap' R) (c0 : w.cell? ⟨gb, 0, none⟩ = some (.slice ao n cap)) (c1 : w.cell? ⟨gb, 1, none⟩ = some (.slice bo m cap')) (hlen : n + m ≤ 3518437208883) :
    Calls Try.prog 40 #[.slice (some ⟨gb, 0, none⟩) 2 2] w fun e w' => ∃ ap c, e = .returned (.slice ap (n + m) c) ∧ OwnE w.heap.size w.heap.size w w' ap c (L ++ R) := by
  have HS := hide hS
  have HR := hide hR
  have HL : Hid (L.length = n) := hS.1
  have HLR : Hid (R.length = m) := hR.1
  have HC0 := hide c0
  have HC1 := hide c1
  clear hS hR
  go_enter Try.func40, Try.ntmps40
  go_wp2_with fail
  go_loopw [3, 5, 11] (fun s _ i wr => ∃ k z : Nat, k ≤ 2 ∧ s = .int .i64 z ∧ i = .int .i64 k ∧ z = (if k = 0 then 0 else if k = 1 then n else n + m) ∧ w = wr) (fun _ _ i _ => 2 - (intOf i).toNat)
  case atStart => exact ⟨0, 0, Nat.zero_le _, rfl, rfl, rfl, rfl⟩
  case round =>
    obtain ⟨k, z, hk, rfl, rfl, hz, rfl⟩ := hrel
    by_cases h2 : k = 2
    · subst h2
      simp at hz
      subst hz
      clear c0 c1
      go_wp2_with fail
      refine (grow_nil (n + m) _ hlen).mono ?_
      rintro e w3 ⟨a3, c3, rfl, O3⟩
      have HO3 := hide O3
      clear O3
      go_wp2_with fail
      go_loopw [6, 8, 27] (fun v _ i wr => ∃ (k : Nat) (ap : Option Addr) (c : Nat) (acc : List En), k ≤ 2 ∧ v = .slice ap acc.length c ∧ i = .int .i64 k ∧ Hid (acc = (if k = 0 then [] else if k = 1 then L else L ++ R) ∧ OwnE w.heap.size w.heap.size w wr ap c acc)) (fun _ _ i _ => 2 - (intOf i).toNat)
      case atStart => exact ⟨0, a3, c3, [], Nat.zero_le _, rfl, rfl, rfl, HO3.out⟩
      case round =>
        clear HO3
        obtain ⟨k, ap, c, acc, hk, rfl, rfl, H⟩ := hrel
        rename World => w4
        have d0 : w4.cell? ⟨gb, 0, none⟩ = some (.slice ao n cap) := by rw [H.out.2.below.cell (World.block_lt_of_cell? _ _ HC0.out)]; exact HC0.out
        have d1 : w4.cell? ⟨gb, 1, none⟩ = some (.slice bo m cap') := by rw [H.out.2.below.cell (World.block_lt_of_cell? _ _ HC1.out)]; exact HC1.out
        by_cases h2 : k = 2
        · subst h2
          have HF : Hid (∃ c', (Value.slice ap acc.length c : Value) = .slice ap (n + m) c' ∧ OwnE w.heap.size w.heap.size w w4 ap c' (L ++ R)) := by
            have e : acc = L ++ R := H.out.1
            rw [e, List.length_append, HL.out, HLR.out]
            exact ⟨c, rfl, by rw [← e]; exact H.out.2⟩
          clear d0 d1
          go_wp2_with fail
          go_ret
          obtain ⟨c', e1, e2⟩ := HF.out
          exact ⟨ap, c', by rw [e1]; rfl, e2⟩
        · by_cases h1 : k = 1
          · subst h1
            have e : acc = L := H.out.1
            have hal : acc.length = n := by rw [e]; exact HL.out
            have HR4 := hide (HR.out.below H.out.2.below)
            go_wp2_with (at_builtin; refine H.out.2.appendAll bo m cap' R HR4.out (by omega) rfl (.tmp 31) (.tmp 32) rfl acc.length rfl rfl rfl ?_; intro a5 c5 w5 O5)
            go_roundw
            case rel => exact ⟨1 + 1, a5, c5, acc ++ R, by omega, by simp [List.length_append, HLR.out, HL.out, e], by go_num, by rw [e]; rfl, O5⟩
            case measure => simp [intOf]
          · obtain rfl : k = 0 := by omega
            have e : acc = [] := H.out.1
            have hal : acc.length = 0 := by rw [e]; rfl
            have HS4 := hide (HS.out.below H.out.2.below)
            go_wp2_with (at_builtin; refine H.out.2.appendAll ao n cap L HS4.out (by omega) rfl (.tmp 31) (.tmp 32) rfl acc.length rfl rfl rfl ?_; intro a5 c5 w5 O5)
            go_roundw
            case rel => exact ⟨0 + 1, a5, c5, acc ++ L, by omega, by simp [HL.out, e], by go_num, by rw [e]; rfl, O5⟩
            case measure => simp [intOf]
    · by_cases h1 : k = 1
      · subst h1
        simp at hz
        subst hz
        go_wp2_with fail
        go_roundw
        case rel => exact ⟨1 + 1, z + m, by omega, by go_num, by go_num, rfl, trivial⟩
        case measure => simp [intOf]
      · obtain rfl : k = 0 := by omega
        simp at hz
        subst hz
        go_wp2_with fail
        go_roundw
        case rel => exact ⟨0 + 1, n, by omega, by go_num, by go_num, rfl, trivial⟩
        case measure => simp [intOf]
end Go.Proofs.Ytmhdhedjeaaciaa
