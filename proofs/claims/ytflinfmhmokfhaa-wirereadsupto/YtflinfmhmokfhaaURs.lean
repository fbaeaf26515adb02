/- WireReads: its two readings whole. -/
import Derived.Test.YtflinfmhmokfhaaURq
namespace Go.Proofs.Ytflinfmhmokfhaa
open Go.RowKit
variable {w w' w2 : World} {ga gg gk : Nat} {ro so lo : Option Addr} {rn rc sn sc ln lc : Nat} {Z : List Int} {P : List Ask}

theorem src_keep {m c : Nat} (S : Src w so m c Z) (hk : m ≠ 0 → ∀ k, blk so = some k → w'.heap[k]? = w.heap[k]?) : Src w' so m c Z :=
  ⟨S.1, S.2.1, fun ad ha t ht => by
    have hc := S.2.2.1 ad ha t ht
    rw [World.cell?_of_block (w := w) (by rw [block_of_add]; exact hk (by omega) _ (by rw [ha]; rfl))]
    exact hc, S.2.2.2⟩
theorem k_lt (h : KSrc w so sn sc P) (h0 : sn ≠ 0) (k : Nat) (e : blk so = some k) : k < w.heap.size := by
  obtain ⟨ad, ha, A⟩ := h.at 0 (by omega)
  have h1 := World.block_lt_of_cell? _ _ A.c0
  rw [block_of_add] at h1
  rw [ha] at e
  have : ad.block = k := Option.some.inj e
  omega
theorem k_keep (h : KSrc w so sn sc P) (hk : sn ≠ 0 → ∀ k, blk so = some k → w'.heap[k]? = w.heap[k]?) : KSrc w' so sn sc P :=
  ⟨h.len, h.nil, fun ad ha t ht => (h.cell ad ha t ht).keep (by rw [block_of_add]; exact hk (by omega) _ (by rw [ha]; rfl))⟩
/-- the first reading -/
def R1P (w w' : World) (gg : Nat) (r : Ending) : Prop := r = .returned (.int .i64 52) ∧ Kl w.heap.size w w' gg gg ∧ ∃ lo lc, Var w' gg (.slice lo 1 lc) 24 ∧ GR w' lo 1 lc [gTwo]
theorem rd1_any (w : World) (gg : Nat) (V : Var w gg (.slice none 0 0) 24) (ro : Option Addr) (rc : Nat) (S : Src w ro 3 rc [2, 5, 6]) (hc : 3 ≤ rc) (hd : ∀ k, blk ro = some k → k ≠ gg) :
    Calls Try.prog 6 #[.slice ro 3 rc, .func (.func 7) #[] #[ptr gg]] w fun r w' => R1P w w' gg r := by
  have hcf : ∀ (args : Array Value) (w : World), (callFunc 7 args).run Try.prog w = .ok (.enter 7 args) w := fun _ _ => rfl
  have hgg := V.lt
  have G1 := beg w ro 3 rc
  obtain ⟨W1, hW1⟩ : ∃ W1, W0 w ro 3 rc = W1 := ⟨_, rfl⟩
  obtain ⟨n, hn⟩ : ∃ n, w.heap.size = n := ⟨_, rfl⟩
  rw [hW1] at G1
  have hz := G1.n.2
  have g1 := G1.e
  have g2 := G1.r
  have g3 := G1.v
  have hb := G1.b
  rw [hn] at hgg hz g1 g2 g3 hb
  have hf : Calls Try.prog 7 #[ptr (n + 1), ptr gg] W1 fun r w' => C1P (n + 3) W1 (n + 1) gg r w' :=
    close1_any (bz := blk ro) (ro := ro) (rc := rc) ⟨⟨g2, S.below (hn ▸ hb), hc, by decide, fun h0 e => by have := src_lt S h0 _ e; omega⟩, (hb.block _ hgg).trans V, GR.nil _, (fun k e => by cases e), ⟨rfl, rfl, rfl, Nat.le_refl _, fun _ _ _ _ => rfl⟩, rfl, ⟨by omega, by omega, by omega, by omega⟩, fun h0 k e => by have := src_lt S h0 k e; exact ⟨by omega, hd k e, by omega⟩⟩
  refine (readT_any ro 3 rc 7 #[ptr gg] (fun r w' => C1P (n + 3) W1 (n + 1) gg r w') w hcf (by rw [hW1, hn]; exact hf) (by
    intro e w4 h
    obtain ⟨K, rfl, ⟨so, sc, hR⟩, -⟩ := h
    rw [hn]
    exact ⟨⟨0, _, EndT.calm hR⟩, (K.block _ (by omega) (by omega) (by omega)).trans g3, (K.block _ (by omega) (by omega) (by omega)).trans g1⟩)).mono ?_
  intro r wz h
  rw [hn] at h
  obtain ⟨e2, w4, gave, err, h, hE, rfl, hF⟩ := h
  obtain ⟨K, rfl, ⟨so, sc, hR⟩, lo, lc, hv, hG, hge⟩ := h
  have hs4 := K.size
  have he : err = 52 := by
    cases hE with
    | calm hR2 => rw [← (rdr_inj hR hR2).1]; rfl
  subst he
  refine ⟨rfl, ⟨hF.os.trans (K.os.trans hb.os), hF.tape.trans (K.tape.trans hb.tape), hF.output.trans (K.output.trans hb.output), by have := hF.size; omega, fun k hk h1 _ => ?_⟩, lo, lc, (hF.block _ hv.lt (by omega) (by omega)).trans hv, hG.keep (fun k e => hF.block k (hG.lt k e) (by have := hge k e; omega) (by have := hge k e; omega))⟩
  rw [hn] at hk
  exact (hF.block k (by omega) (by omega) (by omega)).trans ((K.block k (by omega) (by omega) h1).trans (hb.block k hk))
/-- the second reading -/
def R2P (w w' : World) (gk gg : Nat) (P : List Ask) (Z : List Int) (r : Ending) : Prop := r = .returned (.int .i64 (rtE P Z)) ∧ Kl w.heap.size w w' gk gg ∧ (∃ lo ln lc, Var w' gg (.slice lo ln lc) 24 ∧ GR w' lo ln lc (rdT P Z).1) ∧ ∃ g gave, Var w' gk (ptr g) 25 ∧ Rdr w' g none 0 0 gave true ∧ w.heap.size ≤ g
theorem rd2_any (w : World) (ga gg gk : Nat) (V : Var w gg (.slice none 0 0) 24) (VK : Var w gk (.pointer none) 25) (VA : Var w ga (.slice so sn sc) 23) (S : Src w ro rn rc Z) (hc : rn ≤ rc) (hn : rn ≤ 140737488355328) (Q : KSrc w so sn sc P) (hs : sn ≤ 2000000)
    (hd : gg ≠ gk ∧ ga ≠ gk ∧ ga ≠ gg) (hd1 : rn ≠ 0 → ∀ k, blk ro = some k → k ≠ gg ∧ k ≠ gk) (hd2 : sn ≠ 0 → ∀ k, blk so = some k → k ≠ gg ∧ k ≠ gk) :
    Calls Try.prog 6 #[.slice ro rn rc, .func (.func 9) #[] #[ptr gk, ptr ga, ptr gg]] w fun r w' => R2P w w' gk gg P Z r := by
  have hcf : ∀ (args : Array Value) (w : World), (callFunc 9 args).run Try.prog w = .ok (.enter 9 args) w := fun _ _ => rfl
  obtain ⟨d1, d2, d3⟩ := hd
  have l1 := V.lt
  have l2 := VK.lt
  have l3 := VA.lt
  have G1 := beg w ro rn rc
  obtain ⟨W1, hW1⟩ : ∃ W1, W0 w ro rn rc = W1 := ⟨_, rfl⟩
  obtain ⟨n, hw⟩ : ∃ n, w.heap.size = n := ⟨_, rfl⟩
  rw [hW1] at G1
  have hz := G1.n.2
  have g1 := G1.e
  have g2 := G1.r
  have g3 := G1.v
  have hb := G1.b
  rw [hw] at l1 l2 l3 hz g1 g2 g3 hb
  have VK1 : Var W1 gk (.pointer none) 25 := (hb.block _ l2).trans VK
  obtain ⟨W2, hW2⟩ : ∃ W2, W1.setCell ⟨gk, 0, none⟩ (ptr (n + 1)) = W2 := ⟨_, rfl⟩
  have hz2 : W2.heap.size = n + 3 := by rw [← hW2, set_size]; exact hz
  have ho : ∀ k, k ≠ gk → W2.heap[k]? = W1.heap[k]? := fun k hk => by rw [← hW2]; exact set_other W1 gk 0 k _ hk
  have VK2 : Var W2 gk (ptr (n + 1)) 25 := by rw [← hW2]; exact set_heap W1 gk _ _ _ 0 (ptr (n + 1)) VK1
  have o1 : W2.os = W1.os := by rw [← hW2]; exact setCell_os _ _ _
  have o2 : W2.tape = W1.tape := by rw [← hW2]; exact setCell_tape _ _ _
  have o3 : W2.output = W1.output := by rw [← hW2]; exact setCell_output _ _ _
  have hS1 := S.below (hw ▸ hb)
  have hQ1 := Q.below (hw ▸ hb)
  have hS2 : Src W2 ro rn rc Z := src_keep hS1 (fun h0 k e => ho k (hd1 h0 k e).2)
  have hQ2 : KSrc W2 so sn sc P := k_keep hQ1 (fun h0 k e => ho k (hd2 h0 k e).2)
  have hf : Calls Try.prog 9 #[ptr (n + 1), ptr gk, ptr ga, ptr gg] W1 fun r w' => TP (n + 3) W2 (n + 1) gg P Z r w' := by
    have hTB : TB (n + 3) W2 (n + 1) ga gg so sn sc P := ⟨(ho _ d2).trans ((hb.block _ l3).trans VA), hQ2, ⟨by omega, by omega, d3⟩, fun h0 k e => by have := k_lt Q h0 k e; exact ⟨by omega, by omega, (hd2 h0 k e).1⟩, hs⟩
    have hCI : CI (n + 3) W2 W2 (n + 1) gg (blk ro) ro rn rc Z none 0 0 [] := ⟨⟨(ho _ (by omega)).trans g2, hS2, hc, hn, fun h0 e => by have := src_lt S h0 _ e; omega⟩, (ho _ d1).trans ((hb.block _ l1).trans V), GR.nil _, (fun k e => by cases e), ⟨rfl, rfl, rfl, Nat.le_refl _, fun _ _ _ _ => rfl⟩, rfl, ⟨by omega, by omega, by omega, by omega⟩, fun h0 k e => by have := src_lt S h0 k e; exact ⟨by omega, (hd1 h0 k e).1, by omega⟩⟩
    rw [← hW2] at hTB hCI ⊢
    exact closeT_any hTB hCI VK1
  refine (readT_any ro rn rc 9 #[ptr gk, ptr ga, ptr gg] (fun r w' => TP (n + 3) W2 (n + 1) gg P Z r w') w hcf (by rw [hW1, hw]; exact hf) (by
    intro e w4 h
    obtain ⟨K, lo, ln, lc, hv, hG, hge, h⟩ := h
    rw [hw]
    refine ⟨?_, (K.block _ (by omega) (by omega) (by omega)).trans ((ho _ (by omega)).trans g3), (K.block _ (by omega) (by omega) (by omega)).trans ((ho _ (by omega)).trans g1)⟩
    rcases h with ⟨rfl, _, ⟨so, sc, hR⟩⟩ | ⟨rfl, he, hR⟩ | ⟨⟨v, rfl⟩, _, ⟨so, sn, sc, hR⟩⟩
    · exact ⟨0, _, EndT.calm hR⟩
    · exact ⟨_, _, EndT.up hR he⟩
    · exact ⟨0, _, EndT.boom hR⟩)).mono ?_
  intro r wz h
  rw [hw] at h
  obtain ⟨e2, w4, gave, err, h, hE, rfl, hF⟩ := h
  obtain ⟨K, lo, ln, lc, hv, hG, hge, h⟩ := h
  have hs4 := K.size
  have he : err = rtE P Z := by
    unfold rtE
    rcases h with ⟨rfl, h0, ⟨so, sc, hR⟩⟩ | ⟨rfl, he, hR⟩ | ⟨⟨v, rfl⟩, he, ⟨so, sn, sc, hR⟩⟩
    · generalize hx : Ending.returned (.tuple #[]) = x at hE
      cases hE with
      | calm hR2 => rw [if_pos h0, (rdr_inj hR hR2).1]
      | up _ _ => cases hx
      | boom _ => cases hx
    · generalize hx : Ending.panicked (ups (n + 1)) = x at hE
      cases hE with
      | calm _ => cases hx
      | up hR2 _ => rw [if_neg he, (rdr_inj hR hR2).2]
      | boom _ => simp [ups, upV, bmE, bmV] at hx
    · generalize hx : Ending.panicked (bmE v false) = x at hE
      cases hE with
      | calm _ => cases hx
      | up _ _ => simp [ups, upV, bmE, bmV] at hx
      | boom _ => rw [if_neg (by omega), he]
  subst he
  refine ⟨rfl, ⟨hF.os.trans (K.os.trans (o1.trans hb.os)), hF.tape.trans (K.tape.trans (o2.trans hb.tape)), hF.output.trans (K.output.trans (o3.trans hb.output)), by have := hF.size; omega, fun k hk h1 h2 => ?_⟩, ⟨lo, ln, lc, (hF.block _ hv.lt (by omega) (by omega)).trans hv, hG.keep (fun k e => hF.block k (hG.lt k e) (by have := hge k e; omega) (by have := hge k e; omega))⟩, n + 1, gave, (hF.block _ (by omega) (by omega) (by omega)).trans ((K.block _ (by omega) (by omega) (fun e => d1 e.symm)).trans VK2), hF.r, by omega⟩
  rw [hw] at hk
  exact (hF.block k (by omega) (by omega) (by omega)).trans ((K.block k (by omega) (by omega) h2).trans ((ho k h1).trans (hb.block k hk)))
end Go.Proofs.Ytflinfmhmokfhaa
