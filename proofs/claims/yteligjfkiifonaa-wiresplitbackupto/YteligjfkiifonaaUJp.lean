/- The reference's Join. -/
import Derived.Test.YteligjfkiifonaaUJo
namespace Go.Proofs.Yteligjfkiifonaa
open Go.RowKit
variable {w w' w2 : World} {lo : Option Addr} {ln lc : Nat} {L : List (List Int)}

/-- the part that is read lies below -/
theorem LS.lt_of (S : LS w lo ln lc L) {wr : World} (hb : Below w.heap.size w wr) {ad : Addr} (ha : lo = some ad) {k : Nat} (hk : k < ln) {so : Option Addr} {m d : Nat} (hc : wr.cell? (ad.add k) = some (.slice so m d)) (h0 : m ≠ 0) {j : Nat} (e : blk so = some j) : j < w.heap.size := by
  obtain ⟨_, so', m', d', h3, hc', B'⟩ := S.at k hk
  rw [ha] at h3
  obtain rfl := Option.some.inj h3
  have h4 := (hb.cell (World.block_lt_of_cell? w _ hc')).trans hc'
  rw [hc] at h4
  simp only [Option.some.injEq, Value.slice.injEq] at h4
  obtain ⟨rfl, rfl, rfl⟩ := h4
  exact B'.lt h0 j e
set_option maxRecDepth 100000 in
theorem refJoin_any (lo : Option Addr) (ln lc : Nat) (L : List (List Int)) (w : World) (S : LS w lo ln lc L) (hln : ln ≤ 140737488355328) (hb : (joinB L).length ≤ 140737488355000) :
    Calls Try.prog 7 #[.slice lo ln lc] w fun r w' => JoA w w' L r := by
  have HS := hide S
  have HN := hide hln
  have HB := hide hb
  clear S hln hb
  go_enter Try.func7, Try.ntmps7
  go_wp2_with fail
  go_loopw [3, 4] (fun o i wr => ∃ (k : Nat) (bo : Option Addr) (l cc : Nat), k ≤ ln ∧ o = .slice bo l cc ∧ i = .int .i64 k ∧ Hid (BR wr bo l cc (joinB (L.take k)) ∧ NewB w wr bo)) (fun _ i _ => ln - (intOf i).toNat)
  case atStart => exact ⟨0, none, 0, 0, Nat.zero_le _, rfl, rfl, BR.nil _, Below.refl _ _, fun k e => by cases e⟩
  case round =>
    obtain ⟨k, bo, l, cc, hk, rfl, rfl, HI⟩ := hrel
    by_cases hlt : k < ln
    · have HLT := hide hlt
      have HK1 : Hid (wrap64 ((k : Int) + 1) = ((k + 1 : Nat) : Int)) := by show _ = _; have := HN.out; rw [w64 (by omega) (by omega)]; rfl
      obtain ⟨ad, so, m, d, rfl, hc, B⟩ := (HS.out.below HI.out.2.1).at k hlt
      have hl := HI.out.1.len
      have hj := joinB_succ L k (by rw [HS.out.len]; exact hlt)
      have hle := joinB_le L (k + 1)
      rw [hj, List.length_append, List.length_append, hl, B.len] at hle
      have HLE : Hid (l + (numB m).length + m ≤ 140737488355000) := by show _ ≤ _; have := HB.out; omega
      have HJ : Hid (joinB (L.take k) ++ numB m ++ L.getD k [] = joinB (L.take (k + 1))) := by show _ = _; rw [hj, B.len, List.append_assoc]
      have HLT2 : Hid (m ≠ 0 → ∀ j, blk so = some j → j < w.heap.size) := fun h0 j e => HS.out.lt_of HI.out.2.1 rfl hlt hc h0 e
      have HBS := hide B
      have HC := hide (refNum_any m wr (by have := HLE.out; omega))
      clear B hl hj hle
      go_wp2_with fail
      refine HC.out.mono ?_
      rintro r w3 ⟨b3, c3, rfl, B3, A3⟩
      have N3 := NewB.of_ap A3
      have HR3 := hide (HI.out.1.below N3.1)
      have HN3 : Hid (NewB w w3 bo) := ⟨HI.out.2.1.trans (N3.1.mono HI.out.2.1.size), HI.out.2.2⟩
      have hc3 := (N3.1.cell (World.block_lt_of_cell? wr _ hc)).trans hc
      have HB3 := hide B3
      have HBS3 := hide (HBS.out.below N3.1)
      have HF3 : Hid (∀ j, blk b3 = some j → wr.heap.size ≤ j) := N3.2
      have HL3 : Hid (∀ j, blk bo = some j → j < wr.heap.size) := fun j e => HI.out.1.lt j e
      have HW : Hid (wr.cell? (ad.add k) = some (.slice so m d)) := hc
      clear B3 A3 N3 hc HC
      go_wp2_with (first | (at_builtin; refine HR3.out.appB HB3.out.bs (by have := HLE.out; omega) rfl (.tmp 11) (.tmp 17) rfl rfl rfl ?_; intro b5 c5 w5 S5 A5; have hc5 := (show w5.cell? (ad.add k) = some (.slice so m d) from by rw [World.cell?_of_block (A5.grown.block _ (World.block_lt_of_cell? w3 _ hc3) (fun e => by have h1 := HN3.out.2 _ e.symm; rw [block_of_add] at h1; have h2 := World.block_lt_of_cell? _ _ (HS.out.cell ad rfl k HLT.out).choose_spec.choose_spec.choose_spec.1; rw [block_of_add] at h2; omega))]; exact hc3); have HBS5 := hide (HBS3.out.ap0 A5 (fun h0 j e x => by have h1 := HN3.out.2 j x; have h2 := HLT2.out h0 j e; omega)); have HS5 := hide S5; have HN5 := hide (ap_new HN3.out A5); clear S5 A5) | (at_builtin; refine HS5.out.appB HBS5.out (by have := HLE.out; omega) rfl (.tmp 19) (.tmp 23) rfl rfl rfl ?_; intro b7 c7 w7 S7 A7; have HE : Hid (BR w7 b7 (l + (numB m).length + m) c7 (joinB (L.take (k + 1))) ∧ NewB w w7 b7) := ⟨by rw [← HJ.out]; exact S7, ap_new HN5.out A7⟩; clear S7 A7))
      go_roundw
      case rel => exact ⟨k + 1, b7, _, c7, HLT.out, rfl, by rw [HK1.out], HE⟩
      case measure => rw [HK1.out]; have := HLT.out; simp [intOf]; omega
    · obtain ⟨rfl, -⟩ : k = ln ∧ True := ⟨by omega, trivial⟩
      have HE : Hid (JoA w wr L (.returned (.slice bo l cc))) := ⟨bo, l, cc, rfl, by have h := HI.out.1; rw [List.take_of_length_le (by rw [HS.out.len]; omega)] at h; exact h, HI.out.2⟩
      go_wp2_with fail
      go_ret
      exact HE.out
end Go.Proofs.Yteligjfkiifonaa
