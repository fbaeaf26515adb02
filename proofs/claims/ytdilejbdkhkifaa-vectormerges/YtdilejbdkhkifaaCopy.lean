/- copies: its contract. -/
import Derived.Test.YtdilejbdkhkifaaMetA
namespace Go.Proofs.Ytdilejbdkhkifaa
open Go.RowKit

theorem info22 : (Try.prog.info? 22).map (fun i => (i.zero, i.size, i.bytes)) = some (some (.slice none 0 0), 1, 24) := by kernel_rfl
/-- append onto an empty new row -/
theorem append_new (w : World) {ops : Array Oper} {rest : List Oper} {o : Oper} {a : Act} {Q : Exit → Act → World → Prop}
    (hgd : o.guard = none) (s x : Operand) (ho : o.op = .call { callee := .builtin .append, args := #[s, x], argTypes := #[22, 22] })
    (hs : a.eval s = .slice (some ⟨w.heap.size, 0, none⟩) 0 0)
    (ao : Option Addr) (m c : Nat) (Z : List Int) (hx : a.eval x = .slice ao m c) (S : Src w ao m c Z) (hm : m ≤ 17592186044416)
    (hK : ∀ w' g' c', w.heap.size ≤ g' → Src w' (some ⟨g', 0, none⟩) m c' Z → Below w.heap.size w w' → g' < w'.heap.size → wpList Try.prog ops Q rest (a.put o.dst (.slice (some ⟨g', 0, none⟩) m c')) w') :
    wpList Try.prog ops Q (o :: rest) a (w.alloc (.cells #[] 3)) := by
  obtain ⟨i0, hi, hz0, hz1, hz2⟩ := info_parts info3
  have hL : (w.alloc (.cells #[] 3)).heap[w.heap.size]? = some (.cells #[] 3 (0, 0)) := heap_alloc_new w _
  have hlt : w.heap.size < (w.alloc (.cells #[] 3)).heap.size := by simp
  have hown : (w.alloc (.cells #[] 3)).ownsRow w.heap.size 3 1 (.slice (some ⟨w.heap.size, 0, none⟩) 0 0) 0 [] := ⟨by simp, .inr ⟨w.heap.size, 0, _, rfl, Nat.le_refl _, hL, Nat.le_refl _, by unfold maxLen; omega, by simp, by simp⟩⟩
  have hb : Below w.heap.size w (w.alloc (.cells #[] 3)) := (Below.refl _ _).alloc (Nat.le_refl _) _
  have S' := S.below hb
  cases ao with
  | none =>
    obtain ⟨rfl, rfl⟩ := S.2.1 rfl
    refine wpList_append_own_none hgd s x 22 ho w.heap.size 3 i0 1 Try.underlying22 hi _ 0 _ hs hown hx ?_
    have hZ : Z = [] := List.eq_nil_of_length_eq_zero S.1
    subst hZ
    exact hK _ w.heap.size 0 (Nat.le_refl _) ⟨rfl, fun h => (by cases h), fun ad _ t ht => by omega⟩ hb hlt
  | some ad =>
    refine wpList_append_own _ hgd s x 22 ho w.heap.size 3 i0 (.int .i64 0) 1 8 Try.underlying22 hi hz0 hz1 hz2 rfl (by decide) _ 0 [] hs hown ad m c (Z.map (Value.int .i64)) hx (by simp [S.1])
      (fun j u hj => by
        simp only [List.getElem?_map, Option.map_eq_some_iff] at hj
        obtain ⟨z, hz, rfl⟩ := hj
        have hjm : j < m := by rw [← S.1]; exact (List.getElem?_eq_some_iff.1 hz).1
        rw [S'.2.2 ad rfl j hjm]; simp [List.getD, hz]) (fun u hu => by simp only [List.mem_map] at hu; obtain ⟨z, _, rfl⟩ := hu; rfl) (by unfold maxLen; omega) (by omega) (Nat.le_of_lt hlt) ?_
    intro v' w' hown' hgrow hiff
    have hne : v' ≠ .slice none 0 0 := fun h => by have := (hiff.1 h).1; cases this
    rcases hown'.2 with ⟨h0, _⟩ | ⟨g', cap', cur, hv, hbg, hgg, hnc, hcm, hcs, htake⟩
    · exact absurd h0 hne
    · subst hv
      simp only [Nat.zero_add] at hK hown' ⊢
      refine hK w' g' cap' hbg ⟨S.1, fun h => (by cases h), fun ad' h t ht => ?_⟩ (hb.grown hgrow (by simp) (by intro k h; cases h; exact Nat.le_refl _)) (Array.getElem?_eq_some_iff.1 hgg).1
      obtain rfl := Option.some.inj h
      rw [Addr.add_lit, Nat.zero_add]
      have := hown'.cellAt t (by omega)
      simp only [List.nil_append] at this
      rw [this]
      have hZt : t < Z.length := by rw [S.1]; exact ht
      simp [List.getD, hZt]

/-- the first k copies -/
structure CopyR (w W : World) (lo : Option Addr) (lc k : Nat) (G N C : Nat → Nat) (Z : Nat → List Int) : Prop where
  own : W.ownsRow w.heap.size 22 1 (.slice lo k lc) k ((List.range k).map fun t => Value.slice (some ⟨G t, 0, none⟩) (N t) (C t))
  inner : ∀ t, t < k → Src W (some ⟨G t, 0, none⟩) (N t) (C t) (Z t)
  apart : ∀ t, t < k → 0 < N t → (Value.slice lo k lc).ownBlock ≠ some (G t)
  below : Below w.heap.size w W
theorem CopyR.nil (w : World) (G N C : Nat → Nat) (Z : Nat → List Int) : CopyR w w none 0 0 G N C Z :=
  ⟨World.ownsRow_nil _ _ _ _, fun t h => by omega, fun t h => by omega, Below.refl _ _⟩
theorem CopyR.rows {w W : World} {lo : Option Addr} {lc k : Nat} {G N C : Nat → Nat} {Z : Nat → List Int} (h : CopyR w W lo lc k G N C Z) : Rows W lo k lc (fun t => some ⟨G t, 0, none⟩) N C Z := by
  rcases h.own.2 with ⟨h0, h00⟩ | ⟨g, cap2, cur, hv, hbg, hgg, hnc, hcm, hcsz, htake⟩
  · simp only [Value.slice.injEq] at h0
    obtain ⟨rfl, e0, rfl⟩ := h0
    exact ⟨fun _ => ⟨h00, rfl⟩, fun ad h => (by cases h), h.inner⟩
  · simp only [Value.slice.injEq, true_and] at hv
    obtain ⟨rfl, rfl⟩ := hv
    refine ⟨fun h => (by cases h), fun ad hh t ht => ?_, h.inner⟩
    obtain rfl := Option.some.inj hh
    rw [Addr.add_lit, Nat.zero_add, h.own.cellAt t (by omega)]
    simp [ht]
theorem set_above (f : Nat → Nat) (k v : Nat) : ∀ t, t < k → (fun r => if r = k then v else f r) t = f t := fun t ht => by simp; omega
/-- the outer append -/
theorem CopyR.next {w W W2 : World} {lo : Option Addr} {lc k : Nat} {G N C : Nat → Nat} {Z : Nat → List Int} (R : CopyR w W lo lc k G N C Z) (hb : Below W.heap.size W W2) (g c' : Nat) (hg : W.heap.size ≤ g) (S : Src W2 (some ⟨g, 0, none⟩) (N k) c' (Z k)) (hg2 : g < W2.heap.size) (hk : k ≤ 5864062014800)
    {ops : Array Oper} {rest : List Oper} {o : Oper} {a : Act} {Q : Exit → Act → World → Prop} (hgd : o.guard = none) (s x : Operand) (ho : o.op = .call { callee := .builtin .append, args := #[s, x], argTypes := #[42, 42] })
    (hs : a.eval s = .slice lo k lc) (hx : a.eval x = .slice (some ⟨W2.heap.size, 0, none⟩) 1 1)
    (hK : ∀ (g4 cap2 : Nat) (w4 : World) (G' C' : Nat → Nat), CopyR w w4 (some ⟨g4, 0, none⟩) cap2 (k + 1) G' N C' Z → wpList Try.prog ops Q rest (a.put o.dst (.slice (some ⟨g4, 0, none⟩) (k + 1) cap2)) w4) :
    wpList Try.prog ops Q (o :: rest) a (W2.alloc (.cells #[.slice (some ⟨g, 0, none⟩) (N k) c'] 22)) := by
  obtain ⟨i0, hi, hz0, hz1, hz2⟩ := info_parts info22
  have hs0 := R.below.size
  have hs2 := hb.size
  have hb3 : Below W.heap.size W (W2.alloc (.cells #[.slice (some ⟨g, 0, none⟩) (N k) c'] 22)) := hb.alloc hs2 _
  have hown3 : (W2.alloc (.cells #[.slice (some ⟨g, 0, none⟩) (N k) c'] 22)).ownsRow w.heap.size 22 1 (.slice lo k lc) k ((List.range k).map fun t => Value.slice (some ⟨G t, 0, none⟩) (N t) (C t)) := by
    refine ⟨R.own.1, ?_⟩
    rcases R.own.2 with h | ⟨g0, cap0, cur, hv, hbg, hgg, r⟩
    · exact Or.inl h
    · exact Or.inr ⟨g0, cap0, cur, hv, hbg, (hb3.block g0 (Array.getElem?_eq_some_iff.1 hgg).1).trans hgg, r⟩
  refine wpList_append_own _ hgd s x 42 ho w.heap.size 22 i0 (.slice none 0 0) 1 24 Try.underlying42 hi hz0 hz1 hz2 rfl (by decide) _ k _ hs hown3 ⟨W2.heap.size, 0, none⟩ 1 1 [.slice (some ⟨g, 0, none⟩) (N k) c'] hx (by simp) ?_ ?_ (by unfold maxLen; omega) (by omega) (by simp; omega) ?_
  · intro j u hj
    rw [Addr.add_lit, Nat.zero_add, World.cell?_alloc_new]
    simpa using hj
  · intro u hu
    simp only [List.mem_singleton] at hu
    subst hu
    rfl
  · intro v' w4 hown hgrow _
    rcases hown.2 with ⟨h0, h00⟩ | ⟨g4, cap2, cur, hv, hbg, hgg, hnc, hcm, hcsz, htake⟩
    · omega
    · subst hv
      have hlist : ((List.range k).map fun t => Value.slice (some ⟨G t, 0, none⟩) (N t) (C t)) ++ [Value.slice (some ⟨g, 0, none⟩) (N k) c'] = (List.range (k + 1)).map fun t => Value.slice (some ⟨if t = k then g else G t, 0, none⟩) (N t) (if t = k then c' else C t) := by
        rw [List.range_succ, List.map_append]
        congr 1
        · apply List.map_congr_left
          intro t ht
          have : t < k := by simpa using ht
          simp [show ¬ t = k by omega]
        · simp
      rw [hlist] at hown
      have hold : ∀ kk, (Value.slice lo k lc).ownBlock = some kk → w.heap.size ≤ kk ∧ kk < W.heap.size := fun kk h => by
        have := R.own.lt kk h; exact ⟨this.1, this.2⟩
      have inner4 : ∀ t, t < k + 1 → Src w4 (some ⟨if t = k then g else G t, 0, none⟩) (N t) (if t = k then c' else C t) (Z t) := by
        intro t ht
        by_cases e : t = k
        · subst e
          simp only [if_true]
          refine ⟨S.1, fun h => (by cases h), fun ad h j hj => ?_⟩
          have h1 := S.2.2 ad h j hj
          obtain rfl := Option.some.inj h
          rw [Addr.add_lit] at h1 ⊢
          exact hgrow.cell ((World.cell?_alloc_past _ _ _ hg2).trans h1) (by intro h; have := (hold g h.symm).2; omega)
        · simp only [e, if_false]
          have I := R.inner t (by omega)
          refine ⟨I.1, fun h => (by cases h), fun ad h j hj => ?_⟩
          have h1 := I.2.2 ad h j hj
          obtain rfl := Option.some.inj h
          rw [Addr.add_lit] at h1 ⊢
          have hl := World.block_lt_of_cell? _ _ h1
          simp only at hl
          exact hgrow.cell ((hb3.cell (p := ⟨G t, 0 + j, none⟩) hl).trans h1) (by intro h; exact R.apart t (by omega) (by omega) h.symm)
      refine hK g4 cap2 w4 (fun t => if t = k then g else G t) (fun t => if t = k then c' else C t) ⟨hown, inner4, ?_, (R.below.trans (hb3.mono hs0)).grown hgrow (by simp; omega) (fun kk h => (hold kk h).1)⟩
      intro t ht hN hEq
      have hEq' : g4 = (if t = k then g else G t) := by simpa [Value.ownBlock] using hEq
      have c1 := hown.cellAt 0 (by simp)
      have c2 := (inner4 t ht).2.2 _ rfl 0 hN
      rw [Addr.add_lit, ← hEq'] at c2
      simp at c1 c2
      rw [c2] at c1
      simp at c1

set_option maxHeartbeats 1600000 in
theorem copies_any (ao : Option Addr) (m c : Nat) (A : Nat → Option Addr) (N C : Nat → Nat) (Z : Nat → List Int) (w : World) (hR : Rows w ao m c A N C Z) (hm : m ≤ 5864062014800) (hN : ∀ t, t < m → N t ≤ 17592186044416) :
    Calls Try.prog 29 #[.slice ao m c] w fun e w' => ∃ lo lc G C', e = .returned (.slice lo m lc) ∧ CopyR w w' lo lc m G N C' Z := by
  have HR := hide hR
  have HN := hide hN
  clear hR hN
  go_enter Try.func29, Try.ntmps29
  go_wp2_with fail
  go_loopw [3, 4] (fun v i wr => ∃ (k : Nat) (lo : Option Addr) (lc : Nat) (G C' : Nat → Nat), k ≤ m ∧ i = .int .i64 k ∧ v = .slice lo k lc ∧ Hid (CopyR w wr lo lc k G N C' Z)) (fun _ i _ => m - (intOf i).toNat)
  case atStart => exact ⟨0, Option.none, 0, fun _ => 0, fun _ => 0, Nat.zero_le _, rfl, rfl, CopyR.nil w _ _ _ _⟩
  case round =>
    obtain ⟨k, lo, lc, G, C', hk, rfl, rfl, RC⟩ := hrel
    by_cases hlt : k < m
    · obtain ⟨ad, rfl⟩ : ∃ ad, ao = some ad := by
        cases ao with
        | none => have := HR.out.nil rfl; omega
        | some ad => exact ⟨ad, rfl⟩
      have RK := HR.out.below RC.out.below
      have ck := RK.cell ad rfl k hlt
      have ck' : (wr.alloc (.cells #[] 3)).cell? (ad.add k) = some (.slice (A k) (N k) (C k)) := by
        exact (((Below.refl wr.heap.size wr).alloc (Nat.le_refl _) (.cells #[] 3)).cell (World.block_lt_of_cell? _ _ ck)).trans ck
      have SK := hide (RK.src k hlt)
      clear RK
      go_wp2_with (first | (at_builtin; refine append_new wr rfl (.tmp 12) (.tmp 16) rfl rfl (A k) (N k) (C k) (Z k) rfl SK.out (HN.out k hlt) ?_; intro w2 g2 c2 hg2 S2 b2 l2) | (at_builtin; refine RC.out.next b2 g2 c2 hg2 S2 l2 (by omega) rfl (.tmp 11) (.tmp 18) rfl rfl rfl ?_; intro g4 cap4 w4 G4 C4 R4))
      go_roundw
      case rel => exact ⟨k + 1, some ⟨g4, 0, none⟩, cap4, G4, C4, by omega, by go_num, rfl, R4⟩
      case measure => simp [intOf]; omega
    · obtain rfl : k = m := by omega
      go_wp2_with fail
      go_ret
      exact ⟨lo, lc, G, C', rfl, RC.out⟩
end Go.Proofs.Ytdilejbdkhkifaa
