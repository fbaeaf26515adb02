/- The reference's Union of no set; rows of rows that a call grows. -/
import Derived.Test.YtmamnigobdgpjaaSKu
import Derived.Test.YtmamnigobdgpjaaRCn
import Derived.Maps.AppendAt
namespace Go.Proofs.Ytmamnigobdgpjaa
open Go.RowKit
attribute [local go_sem ↓] mkI_eq

set_option maxHeartbeats 1000000 in
theorem sweep_nil (ao : Option Addr) (cp : Nat) (how : Int) (w : World) (hC : CSrc w ao 0 []) :
    Calls Try.prog 9 #[.slice ao 0 cp, .int .i64 how] w fun e w' => GivesR w w' e (fun R => R = []) := by
  have HC := hide hC
  clear hC
  go_enter Try.func9, Try.ntmps9
  go_wp2_with fail
  refine (marks_any ao 0 cp [] _ HC.out (by simp [tot])).mono ?_
  rintro e w1 ⟨a1, n1, c1, l1, rfl, S1, F1, b1, e1⟩
  obtain rfl : n1 = 0 := by rw [← S1.len, e1]; rfl
  have HS1 := hide S1
  have HB1 := hide b1
  clear S1 b1 e1 F1
  go_wp2_with fail
  refine (sorted_any a1 0 c1 l1 _ HS1.out (by omega)).mono ?_
  rintro e w2 ⟨a2, c2, l, rfl, S2, b2, p2, r2⟩
  have HB2 := hide (HB1.out.trans (b2.mono HB1.out.size))
  clear S2 b2 p2 r2
  obtain ⟨w3, hmk, D3, b3, z3⟩ := madeI w2 0 (by omega)
  have HB3 := hide (HB2.out.trans (b3.mono HB2.out.size))
  have hmk' : (mkI (.int .i64 0) (.int .i64 0)).run Try.prog w2 = .ok (.slice (some ⟨w2.heap.size, 0, none⟩) 0 0) w3 := hmk
  clear D3 b3 z3 hmk
  go_wp2_with fail
  go_loopw [8, 9] (fun v i wr => v = .slice none 0 0 ∧ i = .int .i64 0 ∧ w3 = wr) (fun _ _ _ => 0)
  case atStart => exact ⟨rfl, rfl, rfl⟩
  case round =>
    obtain ⟨rfl, rfl, rfl⟩ := hrel
    have HF : Hid (GivesR w w3 (.returned (.slice none 0 0)) (fun R => R = [])) := ⟨none, 0, 0, [], rfl, RSrc.empty _, HB3.out, rfl⟩
    go_wp2_with fail
    go_ret
    exact HF.out
theorem refUnionA_any (ao : Option Addr) (q cp : Nat) (X : List Sl) (w : World) (hC : CSrc w ao q X) (hn : tot X ≤ 8589934592) :
    Calls Try.prog 5 #[.slice ao q cp] w fun e w' => GivesR w w' e (fun R => form 1 R ∧ ∀ n, mem R n ↔ ∃ s, s ∈ X ∧ mem s.L n) := by
  by_cases hq : 0 < q
  · exact refUnionN_any ao q cp X w hC hq hn
  · obtain rfl : q = 0 := by omega
    obtain rfl : X = [] := List.eq_nil_of_length_eq_zero hC.len
    have HC := hide (sweep_nil ao cp 1 w hC)
    clear hC
    go_enter Try.func5, Try.ntmps5
    go_wp2_with fail
    refine HC.out.mono ?_
    rintro e w1 ⟨a1, n1, c1, R, rfl, S1, b1, p1⟩
    have HF : Hid (GivesR w w1 (.returned (.slice a1 n1 c1)) (fun R => form 1 R ∧ ∀ n, mem R n ↔ ∃ s, s ∈ ([] : List Sl) ∧ mem s.L n)) := ⟨a1, n1, c1, R, rfl, S1, b1, by rw [p1]; exact trivial, fun x => by rw [p1]; exact ⟨fun h => absurd h (mem_nil x), fun ⟨s, h, _⟩ => by cases h⟩⟩
    clear S1 b1 p1
    go_wp2_with fail
    go_ret
    exact HF.out
def slv (s : Sl) : Value := .slice s.ao s.n s.cap
theorem csrcL (W : World) (X : List Sl) (C : Array Value) (hC : C = (X.map slv).toArray) (T : TypeId) (n : Nat) (hl : X.length = n) (hs : ∀ s, s ∈ X → RSrc W s.ao s.n s.cap s.L) (hn : n ≤ 8796093022207) : CSrc (W.alloc (.cells C T)) (some ⟨W.heap.size, 0, none⟩) n X := by
  subst hC
  refine ⟨hl, fun h => (by cases h), fun ad h t s ht => ?_, fun s h => (hs s h).below (below_new _ _), hn⟩
  obtain rfl := Option.some.inj h
  rw [Addr.add_lit, Nat.zero_add, World.cell?_alloc_new]
  simp [ht, slv]
/-- a row of rows that the call grows, each one new -/
structure OwnC (w W : World) (lo : Option Addr) (lc : Nat) (acc : List Sl) : Prop where
  own : W.ownsRow w.heap.size 23 1 (.slice lo acc.length lc) acc.length (acc.map slv)
  src : ∀ s, s ∈ acc → RSrc W s.ao s.n s.cap s.L
  apart : ∀ s, s ∈ acc → ∀ ad, s.ao = some ad → (Value.slice lo acc.length lc).ownBlock ≠ some ad.block ∧ ad.block < W.heap.size
  below : Below w.heap.size w W
theorem OwnC.nil (w : World) : OwnC w w none 0 [] :=
  ⟨World.ownsRow_nil _ _ _ _, (fun s h => by cases h), (fun s h => by cases h), Below.refl _ _⟩
theorem OwnC.csrc {w W : World} {lo : Option Addr} {lc : Nat} {acc : List Sl} (h : OwnC w W lo lc acc) (hn : acc.length ≤ 8796093022207) : CSrc W lo acc.length acc := by
  rcases h.own.2 with ⟨h0, h00⟩ | ⟨g, cap2, cur, hv, hbg, hgg, hnc, hcm, hcsz, htake⟩
  · simp only [Value.slice.injEq] at h0
    obtain ⟨rfl, e0, rfl⟩ := h0
    exact ⟨rfl, fun _ => h00, (fun ad h => by cases h), h.src, hn⟩
  · simp only [Value.slice.injEq, true_and] at hv
    obtain ⟨rfl, rfl⟩ := hv
    refine ⟨rfl, fun h => (by cases h), fun ad hh t s hs => ?_, h.src, hn⟩
    obtain rfl := Option.some.inj hh
    have ht : t < acc.length := (List.getElem?_eq_some_iff.1 hs).1
    rw [Addr.add_lit, Nat.zero_add, h.own.cellAt t (by omega)]
    simp [hs, slv]
theorem infoS : (Try.prog.info? 23).map (fun i => (i.zero, i.size, i.bytes)) = some (some (.slice none 0 0), 1, 24) := by kernel_rfl
theorem rsrc_kept {w w' : World} {ao : Option Addr} {n c : Nat} {L : List Rn} (h : RSrc w ao n c L) (hk : ∀ ad, ao = some ad → w'.heap[ad.block]? = w.heap[ad.block]?) : RSrc w' ao n c L := by
  refine ⟨h.len, h.nil, fun ad ha t ht => ?_, h.cap, h.room, h.big⟩
  have A := h.cell ad ha t ht
  have e : ∀ m, w'.cell? (ad.add m) = w.cell? (ad.add m) := fun m => by unfold World.cell?; rw [block_add, hk ad ha]
  exact ⟨by rw [e]; exact A.c0, by have := A.c1; rw [add_add] at this ⊢; rw [e]; exact this⟩
/-- the outer append -/
theorem OwnC.next {w W W2 : World} {lo : Option Addr} {lc : Nat} {acc : List Sl} (R : OwnC w W lo lc acc) (hb : Below W.heap.size W W2) (ap : Option Addr) (n c : Nat) (L : List Rn) (hS : RSrc W2 ap n c L) (hg : ∀ ad, ap = some ad → W.heap.size ≤ ad.block ∧ ad.block < W2.heap.size) (hlen : acc.length < 1048577)
    {ops : Array Oper} {rest : List Oper} {o : Oper} {a : Act} {Q : Exit → Act → World → Prop} (hgd : o.guard = none) (s x : Operand) (ho : o.op = .call { callee := .builtin .append, args := #[s, x], argTypes := #[22, 22] })
    (k : Nat) (hk : acc.length = k) (hs : a.eval s = .slice lo k lc) (hx : a.eval x = .slice (some ⟨W2.heap.size, 0, none⟩) 1 1)
    (hK : ∀ (g4 cap2 : Nat) (w4 : World), OwnC w w4 (some ⟨g4, 0, none⟩) cap2 (acc ++ [⟨ap, n, c, L⟩]) → wpList Try.prog ops Q rest (a.put o.dst (.slice (some ⟨g4, 0, none⟩) (k + 1) cap2)) w4) :
    wpList Try.prog ops Q (o :: rest) a (W2.alloc (.cells #[.slice ap n c] 23)) := by
  subst hk
  obtain ⟨i0, hi, hz0, hz1, hz2⟩ := info_parts infoS
  have hs0 := R.below.size
  have hs2 := hb.size
  have hb3 : Below W.heap.size W (W2.alloc (.cells #[.slice ap n c] 23)) := hb.alloc hs2 _
  have hown3 : (W2.alloc (.cells #[.slice ap n c] 23)).ownsRow w.heap.size 23 1 (.slice lo acc.length lc) acc.length (acc.map slv) := by
    refine ⟨R.own.1, ?_⟩
    rcases R.own.2 with h | ⟨g0, cap0, cur, hv, hbg, hgg, r⟩
    · exact Or.inl h
    · exact Or.inr ⟨g0, cap0, cur, hv, hbg, (hb3.block g0 (Array.getElem?_eq_some_iff.1 hgg).1).trans hgg, r⟩
  refine wpList_append_own_at _ hgd s x 22 ho w.heap.size 23 i0 (.slice none 0 0) 1 24 Try.underlying22 hi hz0 hz1 hz2 rfl (by decide) _ acc.length _ hs hown3 ⟨W2.heap.size, 0, none⟩ 1 1 [.slice ap n c] hx (by simp) ?_ ?_ (by unfold maxLen; omega) (by omega) (by simp; omega) ?_
  · intro j u hj
    rw [Addr.add_lit, Nat.zero_add, World.cell?_alloc_new]
    simpa using hj
  · intro u hu
    simp only [List.mem_singleton] at hu
    subst hu
    rfl
  · intro v' w4 hown hgrow _ hat
    rcases hown.2 with ⟨h0, h00⟩ | ⟨g4, cap2, cur, hv, hbg, hgg, hnc, hcm, hcsz, htake⟩
    · omega
    · subst hv
      have hold : ∀ kk, (Value.slice lo acc.length lc).ownBlock = some kk → w.heap.size ≤ kk ∧ kk < W.heap.size := fun kk h => R.own.lt kk h
      have hsz4 := hgrow.size
      rw [World.size_alloc] at hsz4
      have hgat : (Value.slice lo acc.length lc).ownBlock = some g4 ∨ g4 = W2.heap.size + 1 := by
        rcases hat with h | h
        · left; rw [← h]; rfl
        · right; simp [Value.ownBlock] at h; omega
      have kept : ∀ kk, kk < W2.heap.size → (Value.slice lo acc.length lc).ownBlock ≠ some kk → w4.heap[kk]? = W2.heap[kk]? := fun kk h1 h2 => by
        rw [hgrow.block kk (by simp; omega) (fun e => h2 e.symm)]
        exact Below.heap_alloc _ _ _ h1
      refine hK g4 cap2 w4 ⟨?_, fun s hs => ?_, fun s hs ad had => ?_, ?_⟩
      · rw [List.length_append, List.map_append]; exact hown
      · rcases List.mem_append.1 hs with h | h
        · have h1 := R.src s h
          have h2 := R.apart s h
          exact rsrc_kept h1 (fun ad had => by rw [kept _ (by have := (h2 ad had).2; omega) (h2 ad had).1, hb.block _ (h2 ad had).2])
        · obtain rfl := List.mem_singleton.1 h
          exact rsrc_kept hS (fun ad had => kept _ (hg ad had).2 (fun e => by have := (hold _ e).2; have := (hg ad had).1; omega))
      · have hb4 : (Value.slice (some ⟨g4, 0, none⟩) (acc ++ [(⟨ap, n, c, L⟩ : Sl)]).length cap2).ownBlock = some g4 := rfl
        rw [hb4]
        rcases List.mem_append.1 hs with h | h
        · have h2 := R.apart s h ad had
          refine ⟨fun e => ?_, by omega⟩
          have e' : g4 = ad.block := Option.some.inj e
          rcases hgat with h3 | h3
          · rw [e'] at h3; exact h2.1 h3
          · omega
        · obtain rfl := List.mem_singleton.1 h
          have h2 := hg ad had
          refine ⟨fun e => ?_, by omega⟩
          have e' : g4 = ad.block := Option.some.inj e
          rcases hgat with h3 | h3
          · have := (hold _ h3).2; omega
          · omega
      · exact (R.below.trans (hb3.mono hs0)).grown hgrow (by simp; omega) (fun kk h => (hold kk h).1)
end Go.Proofs.Ytmamnigobdgpjaa
