/- The law's copies. -/
import Derived.Test.YtmmgbcmcjakdoaaWNr
import Derived.Test.YtmmgbcmcjakdoaaWSo
namespace Go.Proofs.Ytmmgbcmcjakdoaa
open Go.RowKit V

/-- append onto an empty new row -/
theorem append_new (w : World) {ops : Array Oper} {rest : List Oper} {o : Oper} {a : Act} {Q : Exit → Act → World → Prop}
    (hgd : o.guard = none) (s x : Operand) (ho : o.op = .call { callee := .builtin .append, args := #[s, x], argTypes := #[24, 24] })
    (hs : a.eval s = .slice (some ⟨w.heap.size, 0, none⟩) 0 0)
    (ao : Option Addr) (m c : Nat) (Z : List Int) (hx : a.eval x = .slice ao m c) (S : Src w ao m c Z) (hm : m ≤ 17592186044416)
    (hK : ∀ w' g' c', w.heap.size ≤ g' → Src w' (some ⟨g', 0, none⟩) m c' Z → Below w.heap.size w w' → g' < w'.heap.size → wpList Try.prog ops Q rest (a.put o.dst (.slice (some ⟨g', 0, none⟩) m c')) w') :
    wpList Try.prog ops Q (o :: rest) a (w.alloc (.cells #[] 3)) := by
  obtain ⟨i0, hi, hz0, hz1, hz2⟩ := info_parts info3
  have hL : (w.alloc (.cells #[] 3)).heap[w.heap.size]? = some (.cells #[] 3 (0, 0)) := heap_alloc_new w _
  have hlt : w.heap.size < (w.alloc (.cells #[] 3)).heap.size := by simp
  have hown : (w.alloc (.cells #[] 3)).ownsRow w.heap.size 3 1 (.slice (some ⟨w.heap.size, 0, none⟩) 0 0) 0 [] := ⟨by simp, .inr ⟨w.heap.size, 0, _, rfl, Nat.le_refl _, hL, Nat.le_refl _, by unfold maxLen; omega, by simp, by simp⟩⟩
  have hb : Below w.heap.size w (w.alloc (.cells #[] 3)) := (Below.refl _ _).alloc (Nat.le_refl _) _
  have S' := S.below hb
  cases ao with
  | none =>
    obtain ⟨rfl, rfl⟩ := S.2.1 rfl
    refine wpList_append_own_none hgd s x 24 ho w.heap.size 3 i0 1 Try.underlying24 hi _ 0 _ hs hown hx ?_
    have hZ : Z = [] := List.eq_nil_of_length_eq_zero S.1
    subst hZ
    exact hK _ w.heap.size 0 (Nat.le_refl _) ⟨rfl, fun h => (by cases h), fun ad _ t ht => by omega⟩ hb hlt
  | some ad =>
    refine wpList_append_own _ hgd s x 24 ho w.heap.size 3 i0 (.int .i64 0) 1 8 Try.underlying24 hi hz0 hz1 hz2 rfl (by decide) _ 0 [] hs hown ad m c (Z.map (Value.int .i64)) hx (by simp [S.1])
      (fun j u hj => by
        simp only [List.getElem?_map, Option.map_eq_some_iff] at hj
        obtain ⟨z, hz, rfl⟩ := hj
        have hjm : j < m := by rw [← S.1]; exact (List.getElem?_eq_some_iff.1 hz).1
        rw [S'.2.2 ad rfl j hjm]; simp [List.getD, hz]) (fun u hu => by simp only [List.mem_map] at hu; obtain ⟨z, _, rfl⟩ := hu; rfl) (by unfold maxLen; omega) (by omega) (Nat.le_of_lt hlt) ?_
    intro v' w' hown' hgrow hiff
    have hne : v' ≠ .slice none 0 0 := fun h => by have := (hiff.1 h).1; cases this
    rcases hown'.2 with ⟨h0, _⟩ | ⟨g', cap', cur, hv, hbg, hgg, hnc, hcm, hcs, htake⟩
    · exact absurd h0 hne
    · subst hv
      simp only [Nat.zero_add] at hK hown' ⊢
      refine hK w' g' cap' hbg ⟨S.1, fun h => (by cases h), fun ad' h t ht => ?_⟩ (hb.grown hgrow (by simp) (by intro k h; cases h; exact Nat.le_refl _)) (Array.getElem?_eq_some_iff.1 hgg).1
      obtain rfl := Option.some.inj h
      rw [Addr.add_lit, Nat.zero_add]
      have := hown'.cellAt t (by omega)
      simp only [List.nil_append] at this
      rw [this]
      have hZt : t < Z.length := by rw [S.1]; exact ht
      simp [List.getD, hZt]

set_option maxHeartbeats 1600000 in
theorem copies_any (ao : Option Addr) (n cap : Nat) (X : List Sv) (w : World) (hS : VRow w ao n X) (hn : n ≤ 1048576) (hN : ∀ p, p ∈ X → p.vn ≤ 17592186044416) :
    Calls Try.prog 10 #[.slice ao n cap] w fun e w' => ∃ lo lc F, e = .returned (.slice lo n lc) ∧ VRow w' lo n F ∧ Below w.heap.size w w' ∧ F.map Sv.Z = X.map Sv.Z := by
  have HS := hide hS
  have HN := hide hN
  have HX : Hid (X.length = n) := hS.len
  clear hS hN
  go_enter Try.func10, Try.ntmps10
  go_wp2_with fail
  go_loopw [3, 4] (fun v i wr => ∃ (k : Nat) (lo : Option Addr) (lc : Nat) (F : List Sv), k ≤ n ∧ i = .int .i64 k ∧ v = .slice lo k lc ∧ Hid (NR w.heap.size w wr lo lc F ∧ F.length = k ∧ F.map Sv.Z = (X.take k).map Sv.Z)) (fun _ i _ => n - (intOf i).toNat)
  case atStart => exact ⟨0, none, 0, [], Nat.zero_le _, rfl, rfl, NR.nil w, rfl, rfl⟩
  case round =>
    obtain ⟨k, lo, lc, F, hk, rfl, rfl, H⟩ := hrel
    by_cases hlt : k < n
    · obtain ⟨ad, p, rfl, hp, cp, sp⟩ := (HS.out.below H.out.1.below).at k hlt
      have HT : Hid ((X.take (k + 1)).map Sv.Z = (X.take k).map Sv.Z ++ [p.Z]) := by
        show _ = _
        obtain ⟨h1, h2⟩ := List.getElem?_eq_some_iff.1 hp
        rw [List.take_succ_eq_append_getElem h1, List.map_append, h2]; rfl
      have HP := hide (HN.out p (List.mem_of_getElem? hp))
      have HSp := hide sp
      have ck' : (wr.alloc (.cells #[] 3)).cell? (ad.add k) = some (SvV p) := ((below_new wr (.cells #[] 3)).cell (World.block_lt_of_cell? _ _ cp)).trans cp
      have HR := hide H.out.1
      have HF := hide H.out.2.2
      have hFl := H.out.2.1
      clear sp cp hp H
      subst hFl
      go_wp2_with (first | (at_builtin; refine append_new wr rfl (.tmp 12) (.tmp 16) rfl rfl p.vo p.vn p.vc p.Z rfl HSp.out HP.out ?_; intro w2 g2 c2 hg2 S2 b2 l2) | (at_builtin; refine (HR.out.on b2).app (p := ⟨some ⟨g2, 0, none⟩, p.vn, c2, p.Z⟩) S2 (HR.out.fresh (n := p.vn) (fun ad h => by cases h; exact hg2)) (by omega) rfl (.tmp 11) (.tmp 18) rfl F.length rfl rfl _ rfl rfl ?_; intro g4 cap4 w4 R4))
      go_roundw
      case rel => exact ⟨F.length + 1, some ⟨g4, 0, none⟩, cap4, F ++ [⟨some ⟨g2, 0, none⟩, p.vn, c2, p.Z⟩], by omega, by go_num, rfl, R4, by simp, by rw [HT.out, List.map_append, HF.out]; rfl⟩
      case measure => simp [intOf]; omega
    · obtain rfl : k = n := by omega
      have HV : Hid (VRow wr lo k F ∧ Below w.heap.size w wr ∧ F.map Sv.Z = X.map Sv.Z) := ⟨by have := H.out.1.row; rwa [H.out.2.1] at this, H.out.1.below, by rw [H.out.2.2, List.take_of_length_le (by rw [HX.out]; exact Nat.le_refl _)]⟩
      go_wp2_with fail
      go_ret
      exact ⟨lo, lc, F, rfl, HV.out⟩
end Go.Proofs.Ytmmgbcmcjakdoaa
