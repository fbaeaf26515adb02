/- The reference of acks: All, Least. -/
import Derived.Test.YtikpjlbchnpmmaaARg
namespace Go.Proofs.Ytikpjlbchnpmmaa
open Go.RowKit
variable {w w' : World} {g : Nat} {r s : Int} {f : Nat → Int}

/-- the slice owns just these numbers, in blocks from B on; below B0 all is as it was -/
structure OwnI (B0 B : Nat) (w w' : World) (ao : Option Addr) (cap : Nat) (acc : List Int) : Prop where
  own : w'.ownsRow B 3 1 (.slice ao acc.length cap) acc.length (ics acc)
  below : Below B0 w w'
  hB : B ≤ w'.heap.size
  hB0 : B0 ≤ B
theorem OwnI.nil {B0 B : Nat} (hb : Below B0 w w') (hB : B ≤ w'.heap.size) (h0 : B0 ≤ B) : OwnI B0 B w w' none 0 [] :=
  ⟨World.ownsRow_nil _ _ _ _, hb, hB, h0⟩
theorem OwnI.later {B0 B : Nat} {w2 : World} {ao : Option Addr} {cap : Nat} {acc : List Int} (O : OwnI B0 B w w' ao cap acc) (hb : Below w'.heap.size w' w2) : OwnI B0 B w w2 ao cap acc := by
  refine ⟨⟨O.own.1, ?_⟩, O.below.trans (hb.mono (Nat.le_trans O.hB0 O.hB)), Nat.le_trans O.hB hb.size, O.hB0⟩
  rcases O.own.2 with h | ⟨g, cap2, cur, hv, hbg, hgg, r⟩
  · exact Or.inl h
  · exact Or.inr ⟨g, cap2, cur, hv, hbg, (hb.block g (Array.getElem?_eq_some_iff.1 hgg).1).trans hgg, r⟩
theorem infoI : (Try.prog.info? 3).map (fun i => (i.zero, i.size, i.bytes)) = some (some (.int .i64 0), 1, 8) := by kernel_rfl
/-- one number is appended -/
theorem OwnI.append1 {B0 B : Nat} {ao : Option Addr} {cap : Nat} {acc : List Int} (O : OwnI B0 B w w' ao cap acc) (x : Int) (hlen : acc.length ≤ 1000)
    {ops : Array Oper} {rest : List Oper} {o : Oper} {a : Act} {Q : Exit → Act → World → Prop} (hgd : o.guard = none) (s y : Operand) (ho : o.op = .call { callee := .builtin .append, args := #[s, y], argTypes := #[44, 44] })
    (n : Nat) (hn : acc.length = n) (hs : a.eval s = .slice ao n cap) (hy : a.eval y = .slice (some ⟨w'.heap.size, 0, none⟩) 1 1)
    (hK : ∀ (ao2 : Option Addr) (cap2 : Nat) (w2 : World), OwnI B0 B w w2 ao2 cap2 (acc ++ [x]) → wpList Try.prog ops Q rest (a.put o.dst (.slice ao2 (n + 1) cap2)) w2) :
    wpList Try.prog ops Q (o :: rest) a (w'.alloc (.cells #[.int .i64 x] 3)) := by
  subst hn
  obtain ⟨i0, hi, hz0, hz1, hz2⟩ := info_parts infoI
  have hB := O.hB
  have hB0 := O.hB0
  refine wpList_append_own _ hgd s y 44 ho B 3 i0 (.int .i64 0) 1 8 Try.underlying44 hi hz0 hz1 hz2 rfl (by decide) _ acc.length (ics acc) hs (O.own.alloc _) ⟨w'.heap.size, 0, none⟩ 1 1 (ics [x]) hy rfl ?_ (ics_one [x]) (by unfold maxLen; omega) (by omega) (by simp; omega) ?_
  · intro j u hj
    rw [Addr.add_lit, Nat.zero_add, World.cell?_alloc_new]
    simpa [ics] using hj
  · intro v' w2 hown hgrow _
    rw [← ics_append] at hown
    have hrow : ∀ k, (Value.slice ao acc.length cap).ownBlock = some k → B ≤ k := fun k hk => (O.own.lt k hk).1
    have hsz := hgrow.size
    rw [World.size_alloc] at hsz
    rcases hown.2 with ⟨h0, h00⟩ | ⟨g, cap2, cur, hv, r⟩
    · omega
    · subst hv
      refine hK (some ⟨g, 0, none⟩) cap2 w2 ⟨?_, (O.below.alloc (by omega) _).grown hgrow (by simp; omega) (fun k hk => by have := hrow k hk; omega), by omega, hB0⟩
      rw [List.length_append]; exact hown
/-- what All tells -/
def allR (s : Int) (L : List Rn) : Nat → List Int
  | 0 => []
  | k + 1 => allR s L k ++ [if (k : Int) = s then 0 else nbr (k : Int) L]
theorem allR_len (s : Int) (L : List Rn) (k : Nat) : (allR s L k).length = k := by
  induction k with
  | zero => rfl
  | succ k ih => rw [allR, List.length_append, ih]; rfl
set_option maxRecDepth 100000 in
theorem rall_any (bo : Option Addr) (bn bc : Nat) (L : List Rn) (n : Nat) (hn : n ≤ 16) (w : World) (S : RSrc w bo bn bc L) : Calls Try.prog 16 #[TV n s bo bn bc] w fun e w' =>
    ∃ ao c, e = .returned (.slice ao n c) ∧ NSrc w' ao n c (allR s L n) ∧ Below w.heap.size w w' := by
  obtain ⟨w1, hw1⟩ : ∃ w1, w.alloc (.cells #[.int .i64 n, .int .i64 s, .slice bo bn bc] 26) = w1 := ⟨_, rfl⟩
  have HB : Hid (Below w.heap.size w w1) := by rw [← hw1]; exact below_new _ _
  have HX : Hid (∀ W, Below w1.heap.size w1 W → W.cell? ⟨w.heap.size, 0, none⟩ = some (.int .i64 n) ∧ W.cell? ⟨w.heap.size, 1, none⟩ = some (.int .i64 s) ∧ W.cell? ⟨w.heap.size, 2, none⟩ = some (.slice bo bn bc)) := by
    intro W hb
    have hz : w1.heap.size = w.heap.size + 1 := by rw [← hw1]; simp
    rw [hb.cell (show w.heap.size < _ by omega), hb.cell (show w.heap.size < _ by omega), hb.cell (show w.heap.size < _ by omega), ← hw1, World.cell?_alloc_new, World.cell?_alloc_new, World.cell?_alloc_new]
    exact ⟨rfl, rfl, rfl⟩
  have HS := hide (S.below HB.out)
  have HO : Hid (OwnI w1.heap.size w1.heap.size w1 w1 none 0 []) := OwnI.nil (Below.refl _ _) (Nat.le_refl _) (Nat.le_refl _)
  clear S
  go_enter Try.func16, Try.ntmps16
  go_wp2_with fail
  clear hw1
  go_loopw [3, 4] (fun l i wr => ∃ k : Nat, k ≤ n ∧ i = .int .i64 k ∧ ∃ ao c, l = .slice ao k c ∧ Hid (OwnI w1.heap.size w1.heap.size w1 wr ao c (allR s L k))) (fun _ i _ => n - (intOf i).toNat)
  case atStart => exact ⟨0, Nat.zero_le _, rfl, none, 0, rfl, HO⟩
  case round =>
    clear HO
    obtain ⟨k, hk, rfl, ao, c, rfl, HO⟩ := hrel
    obtain ⟨x0, x1, x2⟩ := HX.out wr HO.out.below
    by_cases hlt : k < n
    · by_cases hs : (k : Int) = s
      · have HE : Hid (allR s L (k + 1) = allR s L k ++ [0]) := by show _ = _; rw [allR, if_pos hs]
        have HL : Hid ((allR s L k).length = k) := allR_len s L k
        have HLT := hide hlt
        go_wp2_with (at_builtin; refine HO.out.append1 0 (by have := HL.out; omega) rfl (.tmp 15) (.tmp 16) rfl k HL.out rfl rfl ?_; intro a5 c5 w5 O5; have HO5 := hide O5; clear O5)
        go_roundw
        case rel => exact ⟨k + 1, HLT.out, by first | go_num | (rw [← hs]; go_num), _, _, rfl, by rw [HE.out]; exact HO5⟩
        case measure => have := HLT.out; first | (simp [intOf]; omega) | (rw [← hs]; simp [intOf]; omega)
      · have HE : Hid (allR s L (k + 1) = allR s L k ++ [nbr (k : Int) L]) := by show _ = _; rw [allR, if_neg hs]
        have HL : Hid ((allR s L k).length = k) := allR_len s L k
        have HLT := hide hlt
        go_wp2_with fail
        refine (number_any bo bn bc L k wr (HS.out.below HO.out.below)).mono ?_
        rintro e w4 ⟨rfl, b4⟩
        have HO4 := hide (HO.out.later b4)
        clear b4 HO x0 x1 x2
        obtain ⟨z, hz⟩ : ∃ z, nbr (k : Int) L = z := ⟨_, rfl⟩
        rw [hz] at HE ⊢
        clear hz
        go_wp2_with (at_builtin; refine HO4.out.append1 z (by have := HL.out; omega) rfl (.tmp 18) (.tmp 22) rfl k HL.out rfl rfl ?_; intro a5 c5 w5 O5; have HO5 := hide O5; clear O5)
        go_roundw
        case rel => exact ⟨k + 1, HLT.out, by go_num, _, _, rfl, by rw [HE.out]; exact HO5⟩
        case measure => have := HLT.out; simp [intOf]; omega
    · obtain hkn : k = n := by omega
      rw [hkn] at HO ⊢
      have HN : Hid (NSrc wr ao n c (allR s L n)) := NSrc.of_own (by have := HO.out.own; rwa [allR_len] at this) (allR_len s L n)
      have HB2 := hide (HB.out.trans (HO.out.below.mono HB.out.size))
      go_wp2_with fail
      go_ret
      exact ⟨ao, c, rfl, HN.out, HB2.out⟩
/-- the least of the peers below k, and whether there is one -/
def lrf (s : Int) (L : List Rn) : Nat → Int × Bool
  | 0 => (0, false)
  | k + 1 => if (k : Int) = s then lrf s L k else (if (lrf s L k).2 = false ∨ nbr (k : Int) L < (lrf s L k).1 then nbr (k : Int) L else (lrf s L k).1, true)
set_option maxRecDepth 100000 in
theorem rleast_any (bo : Option Addr) (bn bc : Nat) (L : List Rn) (n : Nat) (hn : n ≤ 16) (w : World) (S : RSrc w bo bn bc L) : Calls Try.prog 22 #[TV n s bo bn bc] w fun e w' =>
    e = .returned (.tuple #[.int .i64 (lrf s L n).1, .bool (lrf s L n).2]) ∧ Below w.heap.size w w' := by
  obtain ⟨w1, hw1⟩ : ∃ w1, w.alloc (.cells #[.int .i64 n, .int .i64 s, .slice bo bn bc] 26) = w1 := ⟨_, rfl⟩
  have HB : Hid (Below w.heap.size w w1) := by rw [← hw1]; exact below_new _ _
  have HX : Hid (∀ W, Below w1.heap.size w1 W → W.cell? ⟨w.heap.size, 0, none⟩ = some (.int .i64 n) ∧ W.cell? ⟨w.heap.size, 1, none⟩ = some (.int .i64 s) ∧ W.cell? ⟨w.heap.size, 2, none⟩ = some (.slice bo bn bc)) := by
    intro W hb
    have hz : w1.heap.size = w.heap.size + 1 := by rw [← hw1]; simp
    rw [hb.cell (show w.heap.size < _ by omega), hb.cell (show w.heap.size < _ by omega), hb.cell (show w.heap.size < _ by omega), ← hw1, World.cell?_alloc_new, World.cell?_alloc_new, World.cell?_alloc_new]
    exact ⟨rfl, rfl, rfl⟩
  have HS := hide (S.below HB.out)
  clear S
  go_enter Try.func22, Try.ntmps22
  go_wp2_with fail
  clear hw1
  go_loopw [4, 5, 6] (fun l y i wr => ∃ k : Nat, k ≤ n ∧ i = .int .i64 k ∧ l = .int .i64 (lrf s L k).1 ∧ y = .bool (lrf s L k).2 ∧ Hid (Below w1.heap.size w1 wr)) (fun _ _ i _ => n - (intOf i).toNat)
  case atStart => exact ⟨0, Nat.zero_le _, rfl, rfl, rfl, Below.refl _ _⟩
  case round =>
    obtain ⟨k, hk, rfl, rfl, rfl, HBk⟩ := hrel
    obtain ⟨x0, x1, x2⟩ := HX.out wr HBk.out
    by_cases hlt : k < n
    · have HLT := hide hlt
      by_cases hs : (k : Int) = s
      · have HE : Hid (lrf s L (k + 1) = lrf s L k) := by show _ = _; rw [lrf, if_pos hs]
        obtain ⟨l, hl⟩ : ∃ l, (lrf s L k).1 = l := ⟨_, rfl⟩
        obtain ⟨y, hy⟩ : ∃ y, (lrf s L k).2 = y := ⟨_, rfl⟩
        have HLY : Hid ((lrf s L (k + 1)).1 = l ∧ (lrf s L (k + 1)).2 = y) := by rw [HE.out]; exact ⟨hl, hy⟩
        rw [hl, hy]
        clear hl hy HE
        go_wp2_with fail
        go_roundw
        case rel => exact ⟨k + 1, HLT.out, by first | go_num | (rw [← hs]; go_num), by rw [HLY.out.1], by rw [HLY.out.2], HBk⟩
        case measure => have := HLT.out; first | (simp [intOf]; omega) | (rw [← hs]; simp [intOf]; omega)
      · have HE : Hid (lrf s L (k + 1) = (if (lrf s L k).2 = false ∨ nbr (k : Int) L < (lrf s L k).1 then nbr (k : Int) L else (lrf s L k).1, true)) := by show _ = _; rw [lrf, if_neg hs]
        obtain ⟨l, hl⟩ : ∃ l, (lrf s L k).1 = l := ⟨_, rfl⟩
        obtain ⟨y, hy⟩ : ∃ y, (lrf s L k).2 = y := ⟨_, rfl⟩
        rw [hl, hy] at HE ⊢
        clear hl hy
        go_wp2_with fail
        refine (number_any bo bn bc L k wr (HS.out.below HBk.out)).mono ?_
        rintro e w4 ⟨rfl, b4⟩
        have HB4 := hide (HBk.out.trans (b4.mono HBk.out.size))
        clear b4 HBk x0 x1 x2
        obtain ⟨z, hz⟩ : ∃ z, nbr (k : Int) L = z := ⟨_, rfl⟩
        rw [hz] at HE ⊢
        clear hz
        cases y with
        | false =>
          have HLY : Hid ((lrf s L (k + 1)).1 = z ∧ (lrf s L (k + 1)).2 = true) := by rw [HE.out, if_pos (Or.inl rfl)]; exact ⟨rfl, rfl⟩
          clear HE
          go_wp2_with fail
          go_roundw
          case rel => exact ⟨k + 1, HLT.out, by go_num, by rw [HLY.out.1], by rw [HLY.out.2], HB4⟩
          case measure => have := HLT.out; simp [intOf]; omega
        | true =>
          by_cases hz : z < l
          · have HLY : Hid ((lrf s L (k + 1)).1 = z ∧ (lrf s L (k + 1)).2 = true) := by rw [HE.out, if_pos (Or.inr hz)]; exact ⟨rfl, rfl⟩
            clear HE
            go_wp2_with fail
            go_roundw
            case rel => exact ⟨k + 1, HLT.out, by go_num, by rw [HLY.out.1], by rw [HLY.out.2], HB4⟩
            case measure => have := HLT.out; simp [intOf]; omega
          · have HLY : Hid ((lrf s L (k + 1)).1 = l ∧ (lrf s L (k + 1)).2 = true) := by
              rw [HE.out, if_neg (fun h => h.elim (fun x => by cases x) hz)]; exact ⟨rfl, rfl⟩
            clear HE
            go_wp2_with fail
            go_roundw
            case rel => exact ⟨k + 1, HLT.out, by go_num, by rw [HLY.out.1], by rw [HLY.out.2], HB4⟩
            case measure => have := HLT.out; simp [intOf]; omega
    · obtain hkn : k = n := by omega
      rw [hkn]
      have HB2 := hide (HB.out.trans (HBk.out.mono HB.out.size))
      go_wp2_with fail
      go_ret2
      exact ⟨rfl, HB2.out⟩
end Go.Proofs.Ytikpjlbchnpmmaa
