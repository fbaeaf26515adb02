/- wire.Join; the reference's Join. -/
import Derived.Test.YteligjfkiifonaaUGb
import Derived.Test.YteligjfkiifonaaYNu
namespace Go.Proofs.Yteligjfkiifonaa
open Go.RowKit
variable {w w' w2 : World} {lo : Option Addr} {ln lc : Nat} {L : List (List Int)}

/-- a row of rows of bytes that is read -/
structure LS (w : World) (lo : Option Addr) (ln lc : Nat) (L : List (List Int)) : Prop where
  len : L.length = ln
  nil : lo = none → ln = 0 ∧ lc = 0
  cell : ∀ ad, lo = some ad → ∀ i, i < ln → ∃ bo n c, w.cell? (ad.add i) = some (.slice bo n c) ∧ BS w bo n c (L.getD i [])
theorem LS.below (h : LS w lo ln lc L) (hb : Below w.heap.size w w') : LS w' lo ln lc L :=
  ⟨h.len, h.nil, fun ad ha i hi => by
    obtain ⟨bo, n, c, hc, B⟩ := h.cell ad ha i hi
    exact ⟨bo, n, c, (hb.cell (World.block_lt_of_cell? w _ hc)).trans hc, B.below hb⟩⟩
theorem LS.at (h : LS w lo ln lc L) (i : Nat) (hi : i < ln) : ∃ ad bo n c, lo = some ad ∧ w.cell? (ad.add i) = some (.slice bo n c) ∧ BS w bo n c (L.getD i []) := by
  cases lo with
  | none => have := (h.nil rfl).1; omega
  | some ad =>
    obtain ⟨bo, n, c, hc, B⟩ := h.cell ad rfl i hi
    exact ⟨ad, bo, n, c, rfl, hc, B⟩
theorem GB.ls {n0 : Nat} (h : GB n0 w lo ln lc L) : LS w lo ln lc L := by
  obtain ⟨V, r, hr⟩ := h.row
  refine ⟨h.len, fun e => ?_, fun ad ha i hi => ?_⟩
  · subst e
    rcases r.2 with ⟨h0, h00⟩ | ⟨q, cap2, cur, hv, _⟩
    · simp only [Value.slice.injEq, true_and] at h0
      exact h0
    · cases hv
  · obtain ⟨b, hb, hc, -⟩ := r.at i hi
    obtain ⟨bo, n, c, hv, B, -⟩ := hr i hi
    rw [ha] at hb
    obtain rfl := Option.some.inj hb
    exact ⟨bo, n, c, by rw [Addr.add_lit, Nat.zero_add, hc, hv], B⟩
/-- frames one behind the other -/
def joinB (L : List (List Int)) : List Int := L.flatMap fun Y => numB Y.length ++ Y
theorem joinB_succ (L : List (List Int)) (k : Nat) (h : k < L.length) : joinB (L.take (k + 1)) = joinB (L.take k) ++ (numB (L.getD k []).length ++ L.getD k []) := by
  unfold joinB
  rw [List.take_add_one, List.flatMap_append, List.getD_eq_getElem?_getD, List.getElem?_eq_getElem h]
  simp
theorem joinB_le (L : List (List Int)) (k : Nat) : (joinB (L.take k)).length ≤ (joinB L).length := by
  have : joinB L = joinB (L.take k) ++ joinB (L.drop k) := by
    unfold joinB
    rw [← List.flatMap_append, List.take_append_drop]
  rw [this, List.length_append]
  omega
theorem BS.ap0 {so ao bo : Option Addr} {m c : Nat} {Y : List Int} (S : BS w so m c Y) (h : Ap w w' ao bo) (hne : m ≠ 0 → ∀ k, blk so = some k → blk ao ≠ some k) : BS w' so m c Y := by
  by_cases h0 : m = 0
  · exact ⟨S.len, S.nil, fun ad ha t ht => by omega⟩
  · exact S.ap h (hne h0)
theorem BS.lt {so : Option Addr} {m c : Nat} {Y : List Int} (S : BS w so m c Y) (h0 : m ≠ 0) (k : Nat) (e : blk so = some k) : k < w.heap.size := by
  cases so with
  | none => cases e
  | some ad =>
    have := World.block_lt_of_cell? _ _ (S.cell ad rfl 0 (by omega))
    rw [block_of_add] at this
    have : ad.block = k := Option.some.inj e
    omega
set_option maxRecDepth 100000 in
theorem frameB_any (ao : Option Addr) (n c : Nat) (Z : List Int) (so : Option Addr) (m d : Nat) (Y : List Int) (w : World) (S : BR w ao n c Z) (B : BS w so m d Y) (hne : m ≠ 0 → ∀ k, blk so = some k → blk ao ≠ some k) (hn : n + m ≤ 140737488355000) :
    Calls Try.prog 19 #[.slice ao n c, .slice so m d] w fun r w' => ∃ bo l cc, r = .returned (.slice bo l cc) ∧ BR w' bo l cc (Z ++ (numB m ++ Y)) ∧ Ap w w' ao bo := by
  have HS := hide S
  have HN := hide hn
  have HY := hide B
  have HE := hide hne
  clear S hn B hne
  go_enter Try.func19, Try.ntmps19
  go_wp2_with fail
  refine (appendNum_any ao n c Z m w HS.out (by have := HN.out; omega) (by have := HN.out; omega)).mono ?_
  rintro r w2 ⟨bo, cc, rfl, B2, A2⟩
  have HL : Hid (n + (numB m).length + m ≤ 140737488355328) := by show _ ≤ _; have := HN.out; have := numB_nine (n := m) (by omega); omega
  have HB := hide B2
  have HA := hide A2
  have HY2 := hide (HY.out.ap0 A2 HE.out)
  clear B2 A2
  go_wp2_with (at_builtin; refine HB.out.appB HY2.out HL.out rfl (.tmp 8) (.tmp 9) rfl rfl rfl ?_; intro b5 c5 w5 S5 A5; have HS5 := hide S5; have HA5 := hide (HA.out.trans A5); clear S5 A5)
  go_ret
  refine ⟨b5, _, c5, rfl, ?_, HA5.out⟩
  rw [← List.append_assoc]
  exact HS5.out
/-- what both Joins answer -/
def JoA (w w' : World) (L : List (List Int)) (r : Ending) : Prop := ∃ bo l cc, r = .returned (.slice bo l cc) ∧ BR w' bo l cc (joinB L) ∧ NewB w w' bo
theorem ap_new {ao bo : Option Addr} {w0 : World} (N : NewB w0 w ao) (A : Ap w w' ao bo) : NewB w0 w' bo := by
  refine ⟨N.1.grown A.grown N.1.size N.2, fun k e => ?_⟩
  rcases A.lies with x | ⟨j, x, hj⟩
  · exact N.2 k (x ▸ e)
  · rw [x] at e
    have := Option.some.inj e
    have := N.1.size
    omega
set_option maxRecDepth 100000 in
theorem join_any (lo : Option Addr) (ln lc : Nat) (L : List (List Int)) (w : World) (S : LS w lo ln lc L) (hln : ln ≤ 140737488355328) (hb : (joinB L).length ≤ 140737488355000) :
    Calls Try.prog 6 #[.slice lo ln lc] w fun r w' => JoA w w' L r := by
  have HS := hide S
  have HN := hide hln
  have HB := hide hb
  clear S hln hb
  go_enter Try.func6, Try.ntmps6
  go_wp2_with fail
  go_loopw [3, 8] (fun o i wr => ∃ (k : Nat) (bo : Option Addr) (l cc : Nat), k ≤ ln ∧ o = .slice bo l cc ∧ i = .int .i64 k ∧ Hid (BR wr bo l cc (joinB (L.take k)) ∧ NewB w wr bo)) (fun _ i _ => ln - (intOf i).toNat)
  case atStart => exact ⟨0, none, 0, 0, Nat.zero_le _, rfl, rfl, BR.nil _, Below.refl _ _, fun k e => by cases e⟩
  case round =>
    obtain ⟨k, bo, l, cc, hk, rfl, rfl, HI⟩ := hrel
    by_cases hlt : k < ln
    · have HLT := hide hlt
      have HK1 : Hid (wrap64 ((k : Int) + 1) = ((k + 1 : Nat) : Int)) := by show _ = _; have := HN.out; rw [w64 (by omega) (by omega)]; rfl
      obtain ⟨ad, so, m, d, rfl, hc, B⟩ := (HS.out.below HI.out.2.1).at k hlt
      have hl := HI.out.1.len
      have hj := joinB_succ L k (by rw [HS.out.len]; exact hlt)
      have hle := joinB_le L (k + 1)
      rw [hj, List.length_append, List.length_append, hl, B.len] at hle
      have HC := hide (frameB_any bo l cc _ so m d _ wr HI.out.1 B (fun h0 j e x => by
        have h1 := (B.lt h0 j e)
        have h2 := HI.out.2.2 j x
        obtain ⟨_, so', m', d', h3, hc', B'⟩ := HS.out.at k hlt
        obtain rfl := Option.some.inj h3
        have h4 := (HI.out.2.1.cell (World.block_lt_of_cell? w _ hc')).trans hc'
        rw [hc] at h4
        simp only [Option.some.injEq, Value.slice.injEq] at h4
        obtain ⟨rfl, rfl, rfl⟩ := h4
        have h5 := B'.lt h0 j e
        omega) (by have := HB.out; omega))
      rw [← B.len, B.len, show numB m ++ L.getD k [] = numB (L.getD k []).length ++ L.getD k [] by rw [B.len], ← hj] at HC
      clear B hl hj hle
      go_wp2_with fail
      refine HC.out.mono ?_
      rintro r w3 ⟨b3, l3, c3, rfl, B3, A3⟩
      have HE : Hid (BR w3 b3 l3 c3 (joinB (L.take (k + 1))) ∧ NewB w w3 b3) := ⟨B3, ap_new HI.out.2 A3⟩
      clear B3 A3 HC HI
      go_wp2_with fail
      go_roundw
      case rel => exact ⟨k + 1, b3, l3, c3, HLT.out, rfl, by rw [HK1.out], HE⟩
      case measure => rw [HK1.out]; have := HLT.out; simp [intOf]; omega
    · obtain ⟨rfl, -⟩ : k = ln ∧ True := ⟨by omega, trivial⟩
      have HE : Hid (JoA w wr L (.returned (.slice bo l cc))) := ⟨bo, l, cc, rfl, by have h := HI.out.1; rw [List.take_of_length_le (by rw [HS.out.len]; omega)] at h; exact h, HI.out.2⟩
      go_wp2_with fail
      go_ret
      exact HE.out
end Go.Proofs.Yteligjfkiifonaa
