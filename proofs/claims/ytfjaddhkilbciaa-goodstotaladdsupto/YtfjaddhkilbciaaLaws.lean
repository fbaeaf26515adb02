/- Laws on rows of numbers that the call itself makes: make, append with room, append to an empty row; a block's numbers as a list. -/
import Derived.Test.YtfjaddhkilbciaaTot
import Derived.Laws.AppendOwnNone
namespace Go.Proofs.Ytfjaddhkilbciaa
open Go.RowKit

theorem info3 : (Try.prog.info? 3).map (fun i => (i.zero, i.size, i.bytes)) = some (some (.int .i64 0), 1, 8) := by kernel_rfl

/-- the block g holds just these numbers -/
def Blk (w : World) (g : Nat) (L : List Int) : Prop := w.heap[g]? = some (.cells (L.map (Value.int .i64)).toArray 3 (0, 0))

theorem Blk.lt {w : World} {g : Nat} {L : List Int} (h : Blk w g L) : g < w.heap.size := by
  unfold Blk at h
  rcases Nat.lt_or_ge g w.heap.size with h' | h'
  · exact h'
  · rw [Array.getElem?_eq_none h'] at h; cases h
theorem Blk.cell {w : World} {g : Nat} {L : List Int} (h : Blk w g L) (t : Nat) (ht : t < L.length) : w.cell? ⟨g, t, none⟩ = some (.int .i64 (L.getD t 0)) := by
  unfold Blk at h
  simp [World.cell?, h, List.getD, ht]
theorem Blk.frozen {w : World} {g : Nat} {L : List Int} (h : Blk w g L) (t : Nat) : w.frozen? ⟨g, t, none⟩ = false := by
  unfold Blk at h
  simp [World.frozen?, h]
theorem Blk.set {w : World} {g : Nat} {L : List Int} (h : Blk w g L) (t : Nat) (z : Int) : Blk (w.setCell ⟨g, t, none⟩ (.int .i64 z)) g (L.set t z) := by
  unfold Blk at h ⊢
  simp [World.setCell, h, Array.getElem?_modify, List.map_set]
theorem Blk.grown {w w' : World} {g : Nat} {L : List Int} {row : Option Nat} (h : Blk w g L) (hg : w.grownBy w' row) (hne : some g ≠ row) : Blk w' g L :=
  (hg.block g h.lt hne).trans h
theorem Blk.alloc {w : World} {g : Nat} {L : List Int} (h : Blk w g L) (o : Obj) : Blk (w.alloc o) g L :=
  (Below.heap_alloc w o g h.lt).trans h

theorem hide {p : Prop} (h : p) : Hid p := h
/-- what is appended: its numbers, nil or not -/
def Src (w : World) (ao : Option Addr) (m c : Nat) (Z : List Int) : Prop :=
  Z.length = m ∧ (ao = none → m = 0 ∧ c = 0) ∧ ∀ ad, ao = some ad → ∀ t, t < m → w.cell? (ad.add t) = some (.int .i64 (Z.getD t 0))
theorem Src.below {w w' : World} {ao : Option Addr} {m c : Nat} {Z : List Int} (h : Src w ao m c Z) (hb : Below w.heap.size w w') : Src w' ao m c Z :=
  ⟨h.1, h.2.1, fun ad ha t ht => (hb.cell (World.block_lt_of_cell? w _ (h.2.2 ad ha t ht))).trans (h.2.2 ad ha t ht)⟩
theorem Src.addr {w : World} {ao : Option Addr} {m c : Nat} {Z : List Int} (h : Src w ao m c Z) (hm : 0 < m) : ∃ b off, ao = some ⟨b, off, none⟩ ∧ b < w.heap.size ∧ ∀ t, t < m → w.cell? ⟨b, off + t, none⟩ = some (.int .i64 (Z.getD t 0)) := by
  cases ao with
  | none => have := (h.2.1 rfl).1; omega
  | some ad =>
    obtain ⟨b, off, s⟩ := ad
    have hs : s = none := by simpa [Addr.add] using World.cell?_spot (h.2.2 _ rfl 0 hm)
    subst hs
    have hlt : b < w.heap.size := by simpa [Addr.add] using World.block_lt_of_cell? w _ (h.2.2 _ rfl 0 hm)
    refine ⟨b, off, rfl, hlt, fun t ht => ?_⟩
    have := h.2.2 _ rfl t ht
    rwa [Addr.add_lit] at this

theorem blk_new (w : World) : Blk (w.alloc (.cells #[] 3)) w.heap.size [] := by unfold Blk; rw [heap_alloc_new]; rfl
theorem Src.alloc {w : World} {ao : Option Addr} {m c : Nat} {Z : List Int} (h : Src w ao m c Z) (o : Obj) : Src (w.alloc o) ao m c Z := h.below ((Below.refl _ _).alloc (Nat.le_refl _) _)

theorem madeZeros (n : Nat) : madeCells #[Value.int .i64 0] n = ((List.replicate n (0 : Int)).map (Value.int .i64)).toArray := by
  apply Array.ext
  · simp [madeCells]
  · intro i h1 h2
    simp [madeCells, Nat.mod_one]

theorem make_zeros (w : World) {ops : Array Oper} {rest : List Oper} {o : Oper} {a : Act} {Q : Exit → Act → World → Prop}
    (hg : o.guard = none) (l c : Operand) (hop : o.op = Op.makeSlice 22 l c) (C : Int) (n : Nat) (hl : a.eval l = .int .i64 0) (hc : a.eval c = .int .i64 C) (hC : C = (n : Int)) (hn : n ≤ 4194304)
    (hK : ∀ w', Blk w' w.heap.size (List.replicate n 0) → w'.heap.size = w.heap.size + 1 → w.grownBy w' none → wpList Try.prog ops Q rest (a.put o.dst (.slice (some ⟨w.heap.size, 0, none⟩) 0 n)) w') :
    wpList Try.prog ops Q (o :: rest) a w := by
  refine wpList_plain hg fun K hK' => ?_
  obtain ⟨i0, hi, hz0, hz1, hz2⟩ := info_parts info3
  subst hC
  have h := run_make (P := Try.prog) w 22 3 i0 (.int .i64 0) Try.underlying22 hi hz0 .i64 .i64 0 (n : Int) (by omega) (by omega) (by rw [hz2]; omega) (by omega)
  rw [hz1, Int.toNat_natCast, Nat.mul_one] at h
  have hcl : (Value.int .i64 0).cells = #[Value.int .i64 0] := rfl
  rw [hcl, madeZeros] at h
  unfold Oper.wp
  simp [execOp, hop, hl, hc, h, Result.andThen]
  refine hK' _ _ (hK _ ?_ ?_ ?_)
  · unfold Blk; rw [heap_alloc_new]; simp
  · simp
  · exact ⟨rfl, rfl, rfl, by simp, fun k hk _ => Below.heap_alloc _ _ _ hk⟩

theorem append_room (w : World) {ops : Array Oper} {rest : List Oper} {o : Oper} {a : Act} {Q : Exit → Act → World → Prop}
    (hgd : o.guard = none) (s x : Operand) (ho : o.op = .call { callee := .builtin .append, args := #[s, x], argTypes := #[22, 22] })
    (g k : Nat) (L : List Int) (cap : Nat) (hs : a.eval s = .slice (some ⟨g, 0, none⟩) k cap) (hL : Blk w g L) (hcap : L.length = cap) (hcm : cap ≤ 4194304)
    (ao : Option Addr) (m c : Nat) (Z : List Int) (hx : a.eval x = .slice ao m c) (hZ : Z.length = m) (hnone : ao = none → m = 0 ∧ c = 0)
    (hc : ∀ ad, ao = some ad → ∀ t, t < m → w.cell? (ad.add t) = some (.int .i64 (Z.getD t 0))) (hfit : k + m ≤ cap)
    (hK : ∀ w', Blk w' g (L.take k ++ Z ++ L.drop (k + m)) → w.grownBy w' (some g) → wpList Try.prog ops Q rest (a.put o.dst (.slice (some ⟨g, 0, none⟩) (k + m) cap)) w') :
    wpList Try.prog ops Q (o :: rest) a w := by
  obtain ⟨i0, hi, hz0, hz1, hz2⟩ := info_parts info3
  cases ao with
  | none =>
    obtain ⟨rfl, rfl⟩ := hnone rfl
    obtain rfl : Z = [] := List.eq_nil_of_length_eq_zero hZ
    have hown : w.ownsRow 0 3 1 (.slice (some ⟨g, 0, none⟩) k cap) k ((L.take k).map (Value.int .i64)) := by
      refine ⟨by simp; omega, .inr ⟨g, cap, _, rfl, Nat.zero_le _, hL, by omega, by unfold maxLen; omega, by simp [hcap], by simp [List.map_take]⟩⟩
    refine wpList_append_own_none hgd s x 22 ho 0 3 i0 1 Try.underlying22 hi _ k _ hs hown hx ?_
    have := hK w (by simpa using hL) (World.grownBy.refl _ _)
    simpa using this
  | some ad =>
    refine wpList_plain hgd fun K hK' => ?_
    have hr := run_append_room (P := Try.prog) w 22 o.type 3 i0 Try.underlying22 hi g k cap _ hL ad m c (Z.map (Value.int .i64)) (by simp [hz1, hZ])
      (fun j u hj => by
        simp only [List.getElem?_map, Option.map_eq_some_iff] at hj
        obtain ⟨z, hz, rfl⟩ := hj
        have hjm : j < m := by rw [← hZ]; exact (List.getElem?_eq_some_iff.1 hz).1
        rw [hc ad rfl j hjm]; simp [List.getD, hz]) (fun u hu => by simp only [List.mem_map] at hu; obtain ⟨z, _, rfl⟩ := hu; rfl) hfit (by simp [hz1]; omega)
    unfold Oper.wp
    simp only [execOp, ho, resolve, invoke, builtin, Sem.run_bind, Sem.run_pure, Result.andThen_ok, List.map_toArray, List.map_cons, List.map_nil, hs, hx, hr]
    refine hK' _ _ (hK _ ?_ ⟨rfl, rfl, rfl, by simp, fun k _ hk => setRow_other w g k _ (fun e => hk (by simp [e]))⟩)
    have := setRow_heap w g _ ((L.map (Value.int .i64)).toArray.toList.take (k * i0.size) ++ Z.map (Value.int .i64) ++ (L.map (Value.int .i64)).toArray.toList.drop (k * i0.size + (Z.map (Value.int .i64)).length)).toArray 3 _ hL
    unfold Blk
    rw [this]
    simp [hz1, hZ, List.map_take, List.map_drop]

theorem append_new (w : World) {ops : Array Oper} {rest : List Oper} {o : Oper} {a : Act} {Q : Exit → Act → World → Prop}
    (hgd : o.guard = none) (s x : Operand) (ho : o.op = .call { callee := .builtin .append, args := #[s, x], argTypes := #[22, 22] })
    (g : Nat) (hs : a.eval s = .slice (some ⟨g, 0, none⟩) 0 0) (hL : Blk w g [])
    (ao : Option Addr) (m c : Nat) (Z : List Int) (hx : a.eval x = .slice ao m c) (hZ : Z.length = m) (hnone : ao = none → m = 0 ∧ c = 0) (hm : m ≤ 4194304)
    (hc : ∀ ad, ao = some ad → ∀ t, t < m → w.cell? (ad.add t) = some (.int .i64 (Z.getD t 0)))
    (hK : ∀ w' g' c', g ≤ g' → g' < w'.heap.size → (∀ t, t < m → w'.cell? ⟨g', t, none⟩ = some (.int .i64 (Z.getD t 0))) → w.grownBy w' (some g) → wpList Try.prog ops Q rest (a.put o.dst (.slice (some ⟨g', 0, none⟩) m c')) w') :
    wpList Try.prog ops Q (o :: rest) a w := by
  obtain ⟨i0, hi, hz0, hz1, hz2⟩ := info_parts info3
  have hown : w.ownsRow g 3 1 (.slice (some ⟨g, 0, none⟩) 0 0) 0 [] := ⟨by simp, .inr ⟨g, 0, _, rfl, Nat.le_refl _, hL, Nat.le_refl _, by unfold maxLen; omega, by simp, by simp⟩⟩
  cases ao with
  | none =>
    obtain ⟨rfl, rfl⟩ := hnone rfl
    refine wpList_append_own_none hgd s x 22 ho g 3 i0 1 Try.underlying22 hi _ 0 _ hs hown hx ?_
    exact hK w g 0 (Nat.le_refl _) hL.lt (fun t ht => by omega) (World.grownBy.refl _ _)
  | some ad =>
    refine wpList_append_own w hgd s x 22 ho g 3 i0 (.int .i64 0) 1 8 Try.underlying22 hi hz0 hz1 hz2 rfl (by decide) _ 0 [] hs hown ad m c (Z.map (Value.int .i64)) hx (by simp [hZ])
      (fun j u hj => by
        simp only [List.getElem?_map, Option.map_eq_some_iff] at hj
        obtain ⟨z, hz, rfl⟩ := hj
        have hjm : j < m := by rw [← hZ]; exact (List.getElem?_eq_some_iff.1 hz).1
        rw [hc ad rfl j hjm]; simp [List.getD, hz]) (fun u hu => by simp only [List.mem_map] at hu; obtain ⟨z, _, rfl⟩ := hu; rfl) (by unfold maxLen; omega) (by omega) (Nat.le_of_lt hL.lt) ?_
    intro v' w' hown' hgrow hiff
    have hne : v' ≠ .slice none 0 0 := fun h => by have := (hiff.1 h).1; cases this
    rcases hown'.2 with ⟨h0, _⟩ | ⟨g', cap', cur, hv, hbg, hgg, hnc, hcm, hcs, htake⟩
    · exact absurd h0 hne
    · subst hv
      simp only [Nat.zero_add] at hK hown' ⊢
      refine hK w' g' cap' hbg ?_ ?_ hgrow
      · rcases Nat.lt_or_ge g' w'.heap.size with h' | h'
        · exact h'
        · rw [Array.getElem?_eq_none h'] at hgg; cases hgg
      · intro t ht
        have := hown'.cellAt t (by omega)
        simp only [List.nil_append] at this
        rw [this]
        simp [List.getD, hZ ▸ ht]
end Go.Proofs.Ytfjaddhkilbciaa
