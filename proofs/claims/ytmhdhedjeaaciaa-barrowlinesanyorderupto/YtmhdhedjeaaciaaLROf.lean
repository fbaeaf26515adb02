/- The reference's Of and Own: their contracts. -/
import Derived.Test.YtmhdhedjeaaciaaLOf
namespace Go.Proofs.Ytmhdhedjeaaciaa
open Go.RowKit
attribute [local go_sem ↓] ld28_eq st28_eq
attribute [local go_sem] zero_EC cells_EV EC_size fold_EC

theorem EnAt.spot {w : World} {p : Addr} {e : En} (A : EnAt w p e) : p.spot = none := World.cell?_spot A.c0
theorem EnAt.f2 {w : World} {p : Addr} {e : En} (A : EnAt w p e) : w.cell? ⟨p.block, p.off + 2, none⟩ = some (.string e.sku) := by
  have h := A.c2
  have hs := A.spot
  obtain ⟨b, o, sp⟩ := p
  simp at hs
  subst hs
  rwa [Addr.add_lit] at h
set_option maxRecDepth 100000 in
set_option maxHeartbeats 1600000 in
theorem refOf_any (ao : Option Addr) (n cap : Nat) (L : List En) (s : ByteArray) (w : World) (hS : ESrc w ao n cap L) (hs : s.size ≤ maxLen) :
    Calls Try.prog 30 #[.slice ao n cap, .string s] w fun x w' => GivesEE w w' x (ofV L s) (ofE L s) := by
  have HS := hide hS
  have hn := hS.2.2.2.2
  have HL : Hid (L.length = n) := hS.1
  have HSs := hide hs
  clear hS hs
  go_enter Try.func30, Try.ntmps30
  go_wp2_with fail
  refine (refCheckL_any _ _ _ L _ HS.out).mono ?_
  rintro x w1 ⟨rfl, b1⟩
  have B1 := hide b1
  clear b1
  rcases chk_cases L with h | h
  · rw [h]
    obtain ⟨gd, Hg⟩ : ∃ gd, Hid (good s.data.toList = gd) := ⟨_, rfl⟩
    cases gd with
    | false =>
      have HE : Hid (ofE L s = 5) := by show _ = _; unfold ofE; rw [if_pos h, Hg.out]; rfl
      have HV : Hid (ofV L s = []) := by show _ = _; unfold ofV; rw [HE.out]; rfl
      clear h
      go_wp2_with (go_at_call 43; refine (refGood_any s _ HSs.out).mono ?_; rintro e w' ⟨rfl, rfl⟩; rw [Hg.out])
      go_ret2
      rw [HE.out, HV.out]
      exact ⟨_, _, _, rfl, ESrc.none _, B1.out, fun ad h => by cases h⟩
    | true =>
      have HE : Hid (ofE L s = 0) := by show _ = _; unfold ofE; rw [if_pos h, Hg.out]; rfl
      have HV : Hid (ofV L s = L.filter (fun e => eqS e.sku s)) := by show _ = _; unfold ofV; rw [HE.out]; rfl
      obtain ⟨p, Hp⟩ : ∃ p : En → Bool, Hid ((fun e => eqS e.sku s) = p) := ⟨_, rfl⟩
      rw [Hp.out] at HV
      clear h
      go_wp2_with (go_at_call 43; refine (refGood_any s _ HSs.out).mono ?_; rintro e w' ⟨rfl, rfl⟩; rw [Hg.out])
      go_loopw [6, 7] (fun v i wr => ∃ (k : Nat) (ap : Option Addr) (c : Nat), k ≤ n ∧ v = .slice ap ((L.take k).filter p).length c ∧ i = .int .i64 k ∧ Hid (OwnE w.heap.size w.heap.size w wr ap c ((L.take k).filter p))) (fun _ i _ => n - (intOf i).toNat)
      case atStart => exact ⟨0, none, 0, Nat.zero_le _, rfl, rfl, OwnE.nil B1.out B1.out.size (Nat.le_refl _)⟩
      case round =>
        obtain ⟨k, ap, c, hk, rfl, rfl, HO⟩ := hrel
        obtain ⟨acc, Hacc⟩ : ∃ acc, Hid ((L.take k).filter p = acc) := ⟨_, rfl⟩
        have hal : acc.length ≤ k := by
          rw [← Hacc.out]; have h1 := List.length_filter_le p (L.take k); have h2 := List.length_take_le k L; omega
        rw [Hacc.out] at HO ⊢
        by_cases hlt : k < n
        · obtain ⟨ad, rfl, A0⟩ := (HS.out.below HO.out.below).at k hlt
          have hld := run_ld28 A0
          obtain ⟨e, He⟩ : ∃ e, Hid (L.getD k en0 = e) := ⟨_, rfl⟩
          rw [He.out] at hld A0
          have HT := hide (take_snoc L k (by rw [HL.out]; exact hlt))
          rw [He.out] at HT
          have x2 := A0.f2
          have HA0 := hide A0
          clear A0
          obtain ⟨q, Hq⟩ : ∃ q, Hid (p e = q) := ⟨_, rfl⟩
          have hq : (e.sku.toList == s.toList) = q := by rw [← Hq.out, ← Hp.out]; rfl
          cases q with
          | false =>
            have HN : Hid ((L.take (k + 1)).filter p = acc) := by show _ = _; rw [HT.out, List.filter_append, Hacc.out]; simp [Hq.out]
            go_wp2_with fail
            go_roundw
            case rel => exact ⟨k + 1, ap, c, by omega, by rw [HN.out], by go_num, by rw [HN.out]; exact HO⟩
            case measure => simp [intOf]; omega
          | true =>
            have HN : Hid ((L.take (k + 1)).filter p = acc ++ [e]) := by show _ = _; rw [HT.out, List.filter_append, Hacc.out]; simp [Hq.out]
            have O2 := HO.out
            go_wp2_with (at_builtin; refine O2.append e _ rfl (by omega) rfl (.tmp 27) (.tmp 32) rfl acc.length rfl rfl rfl ?_; intro g4 c4 w4 O4 hk4)
            go_roundw
            case rel => exact ⟨k + 1, some ⟨g4, 0, none⟩, c4, by omega, by rw [HN.out]; simp, by go_num, by rw [HN.out]; exact O4⟩
            case measure => simp [intOf]; omega
        · obtain rfl : k = n := by omega
          have HF : Hid (L.filter p = acc) := by show _ = _; rw [← Hacc.out, List.take_of_length_le (by rw [HL.out]; exact Nat.le_refl _)]
          have hsk : ∀ e ∈ acc, e.sku.size ≤ maxLen := by
            intro e he; rw [← HF.out] at he; exact HS.out.2.2.2.1 e (List.mem_filter.1 he).1
          obtain ⟨S1, F1⟩ := HO.out.src hsk (by omega)
          have HS1 := hide S1
          have HF1 := hide F1
          clear S1 F1 hsk
          go_wp2_with fail
          go_ret2
          rw [HE.out, HV.out, HF.out]
          exact ⟨_, _, _, rfl, HS1.out, HO.out.below, HF1.out⟩
  · have HE : Hid (ofE L s = 1) := by show _ = _; unfold ofE; rw [h]; rfl
    have HV : Hid (ofV L s = []) := by show _ = _; unfold ofV; rw [HE.out]; rfl
    rw [h]
    clear h
    go_wp2_with fail
    go_ret2
    rw [HE.out, HV.out]
    exact ⟨_, _, _, rfl, ESrc.none _, B1.out, fun ad h => by cases h⟩
end Go.Proofs.Ytmhdhedjeaaciaa
