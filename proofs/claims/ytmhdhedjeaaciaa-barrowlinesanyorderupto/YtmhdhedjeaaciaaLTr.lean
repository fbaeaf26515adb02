/- shuffled: the drawn region that changes two numbers about. -/
import Derived.Test.YtmhdhedjeaaciaaLRg
namespace Go.Proofs.Ytmhdhedjeaaciaa
open Go.RowKit

set_option maxRecDepth 100000 in
set_option maxHeartbeats 8000000 in
theorem region13 (g n i j : Nat) (a b c : Int) (u0 u1 u2 u3 u4 u6 u9 u10 u11 u12 u13 u14 u15 u16 u17 u18 u19 u20 u21 u22 u23 u24 u25 u26 u27 u28 u29 u30 u31 u32 u33 u34 u35 u36 u37 u38 u39 u40 u41 u42 u43 u44 u45 u46 u47 u48 u49 u50 u51 u52 u53 u54 u55 u56 u57 : Value) {Q : Exit → Act → World → Prop} (w : World) (hin : i < n) (hjn : j < n) (_ : n ≤ 3518437208883) (ha : w.cell? ⟨g, i, none⟩ = some (.int .i64 a)) (hb : w.cell? ⟨g, j, none⟩ = some (.int .i64 b)) (hfi : w.frozen? ⟨g, i, none⟩ = false) (hb1 : (w.drew.setCell ⟨g, i, none⟩ (.int .i64 b)).cell? ⟨g, j, none⟩ = some (.int .i64 c)) (hf1 : (w.drew.setCell ⟨g, i, none⟩ (.int .i64 b)).frozen? ⟨g, j, none⟩ = false)
    (hQ : Q .normal { tmps := #[u0, u1, u2, u3, u4, Value.slice (some { block := g, off := 0 }) n n, u6, Value.int IntKind.i64 ↑i, Value.int IntKind.i64 ↑j, u9, u10, u11, u12, u13, u14, u15, u16, u17, u18, u19, u20, u21, u22, u23, u24, u25, u26, u27, u28, u29, u30, u31, u32, u33, u34, u35, u36, u37, u38, u39, u40, u41, u42, Value.slice (some { block := g, off := 0 }) n n, Value.int IntKind.i64 ↑i, Value.slice (some { block := g, off := 0 }) n n, Value.int IntKind.i64 ↑j, Value.slice (some { block := g, off := 0 }) n n, Value.int IntKind.i64 ↑j, Value.pointer (some { block := g, off := j }), Value.int IntKind.i64 b, Value.slice (some { block := g, off := 0 }) n n, Value.int IntKind.i64 ↑i, Value.pointer (some { block := g, off := i }), Value.int IntKind.i64 a, Value.pointer (some { block := g, off := i }), Value.pointer (some { block := g, off := j }), u57], defers := [] } ((w.drew.setCell ⟨g, i, none⟩ (.int .i64 b)).setCell ⟨g, j, none⟩ (.int .i64 a))) :
    (Code.region 13 #[{ dst := some 43, op := Op.move (Operand.tmp 5), type := 49, pos := "top.go:126", after := #[], guard := none }, { dst := some 44, op := Op.move (Operand.tmp 7), type := 3, pos := "top.go:126", after := #[], guard := none }, { dst := some 45, op := Op.move (Operand.tmp 5), type := 49, pos := "top.go:126", after := #[{ on := 13, ground := Ground.gcOnly Departure.lateStores }], guard := none }, { dst := some 46, op := Op.move (Operand.tmp 8), type := 3, pos := "top.go:126", after := #[{ on := 13, ground := Ground.gcOnly Departure.lateStores }], guard := none }, { dst := some 47, op := Op.move (Operand.tmp 5), type := 49, pos := "top.go:126", after := #[], guard := none }, { dst := some 48, op := Op.move (Operand.tmp 8), type := 3, pos := "top.go:126", after := #[], guard := none }, { dst := some 49, op := Op.indexAddr 49 (Operand.tmp 47) (Operand.tmp 48), type := 0, pos := "top.go:126", after := #[{ on := 4, ground := Ground.data }, { on := 5, ground := Ground.data }], guard := none }, { dst := some 50, op := Op.load 3 (Operand.tmp 49), type := 3, pos := "top.go:126", after := #[{ on := 6, ground := Ground.data }], guard := none }, { dst := some 51, op := Op.move (Operand.tmp 5), type := 49, pos := "top.go:126", after := #[], guard := none }, { dst := some 52, op := Op.move (Operand.tmp 7), type := 3, pos := "top.go:126", after := #[], guard := none }, { dst := some 53, op := Op.indexAddr 49 (Operand.tmp 51) (Operand.tmp 52), type := 0, pos := "top.go:126", after := #[{ on := 8, ground := Ground.data }, { on := 9, ground := Ground.data }], guard := none }, { dst := some 54, op := Op.load 3 (Operand.tmp 53), type := 3, pos := "top.go:126", after := #[{ on := 10, ground := Ground.data }], guard := none }, { dst := some 55, op := Op.indexAddr 49 (Operand.tmp 43) (Operand.tmp 44), type := 0, pos := "top.go:126", after := #[{ on := 0, ground := Ground.data }, { on := 1, ground := Ground.data }, { on := 0, ground := Ground.phase }, { on := 1, ground := Ground.phase }, { on := 2, ground := Ground.textOnly Departure.lateStores }, { on := 3, ground := Ground.textOnly Departure.lateStores }, { on := 4, ground := Ground.phase }, { on := 5, ground := Ground.phase }, { on := 6, ground := Ground.phase }, { on := 7, ground := Ground.phase }, { on := 8, ground := Ground.textOnly Departure.lateStores }, { on := 9, ground := Ground.textOnly Departure.lateStores }, { on := 10, ground := Ground.textOnly Departure.lateStoresUnsure }, { on := 11, ground := Ground.phase }], guard := none }, { dst := none, op := Op.store 3 (Operand.tmp 55) (Operand.tmp 50), type := 0, pos := "top.go:126", after := #[{ on := 12, ground := Ground.data }, { on := 7, ground := Ground.data }, { on := 0, ground := Ground.phase }, { on := 1, ground := Ground.phase }, { on := 2, ground := Ground.textOnly Departure.lateStores }, { on := 3, ground := Ground.textOnly Departure.lateStores }, { on := 4, ground := Ground.phase }, { on := 5, ground := Ground.phase }, { on := 6, ground := Ground.phase }, { on := 7, ground := Ground.phase }, { on := 8, ground := Ground.textOnly Departure.lateStores }, { on := 9, ground := Ground.textOnly Departure.lateStores }, { on := 10, ground := Ground.textOnly Departure.lateStoresUnsure }, { on := 11, ground := Ground.phase }], guard := none }, { dst := some 56, op := Op.indexAddr 49 (Operand.tmp 45) (Operand.tmp 46), type := 0, pos := "top.go:126", after := #[{ on := 2, ground := Ground.data }, { on := 3, ground := Ground.data }, { on := 0, ground := Ground.phase }, { on := 1, ground := Ground.phase }, { on := 2, ground := Ground.phase }, { on := 3, ground := Ground.phase }, { on := 4, ground := Ground.phase }, { on := 5, ground := Ground.phase }, { on := 6, ground := Ground.phase }, { on := 7, ground := Ground.phase }, { on := 8, ground := Ground.phase }, { on := 9, ground := Ground.phase }, { on := 10, ground := Ground.phase }, { on := 11, ground := Ground.phase }, { on := 12, ground := Ground.phase }, { on := 13, ground := Ground.phase }], guard := none }, { dst := none, op := Op.store 3 (Operand.tmp 56) (Operand.tmp 54), type := 0, pos := "top.go:126", after := #[{ on := 14, ground := Ground.data }, { on := 11, ground := Ground.data }, { on := 13, ground := Ground.chain }, { on := 0, ground := Ground.phase }, { on := 1, ground := Ground.phase }, { on := 2, ground := Ground.phase }, { on := 3, ground := Ground.phase }, { on := 4, ground := Ground.phase }, { on := 5, ground := Ground.phase }, { on := 6, ground := Ground.phase }, { on := 7, ground := Ground.phase }, { on := 8, ground := Ground.phase }, { on := 9, ground := Ground.phase }, { on := 10, ground := Ground.phase }, { on := 11, ground := Ground.phase }, { on := 12, ground := Ground.phase }, { on := 13, ground := Ground.phase }], guard := none }] true).wp Try.prog Q { tmps := #[u0, u1, u2, u3, u4, Value.slice (some { block := g, off := 0 }) n n, u6, Value.int IntKind.i64 ↑i, Value.int IntKind.i64 ↑j, u9, u10, u11, u12, u13, u14, u15, u16, u17, u18, u19, u20, u21, u22, u23, u24, u25, u26, u27, u28, u29, u30, u31, u32, u33, u34, u35, u36, u37, u38, u39, u40, u41, u42, u43, u44, u45, u46, u47, u48, u49, u50, u51, u52, u53, u54, u55, u56, u57], defers := [] } w := by
  have HQ := hide hQ
  have HA' := hide ha
  have HB' := hide hb
  have HFI := hide hfi
  have HB1 := hide hb1
  have HF1 := hide hf1
  clear ha hb hfi hb1 hf1
  clear hQ
  obtain ⟨w0, Hw0⟩ : ∃ w0, Hid (w.drew = w0) := ⟨_, rfl⟩
  have HA0 : Hid (w0.cell? ⟨g, i, none⟩ = some (.int .i64 a)) := by show _ = _; rw [← Hw0.out]; exact HA'.out
  have HB0 : Hid (w0.cell? ⟨g, j, none⟩ = some (.int .i64 b)) := by show _ = _; rw [← Hw0.out]; exact HB'.out
  have HF0 : Hid (w0.frozen? ⟨g, i, none⟩ = false) := by show _ = _; rw [← Hw0.out]; exact HFI.out
  rw [Hw0.out] at HB1 HF1
  obtain ⟨ex, Hex⟩ : ∃ ex, Hid (ex = [Value.slice (some { block := g, off := 0 }) n n, Value.int IntKind.i64 ↑i, Value.slice (some { block := g, off := 0 }) n n, Value.int IntKind.i64 ↑j, Value.slice (some { block := g, off := 0 }) n n, Value.int IntKind.i64 ↑j, Value.pointer (some { block := g, off := j }), Value.int IntKind.i64 b, Value.slice (some { block := g, off := 0 }) n n, Value.int IntKind.i64 ↑i, Value.pointer (some { block := g, off := i }), Value.int IntKind.i64 a, Value.pointer (some { block := g, off := i }), undef, Value.pointer (some { block := g, off := j })]) := ⟨_, rfl⟩
  refine wp_region_inv (by kernel_rfl) (fun l x W => ∃ v0 v1 v2 v3 v4 v5 v6 v7 v8 v9 v10 v11 v12 v13 v14, x = { tmps := #[u0, u1, u2, u3, u4, Value.slice (some { block := g, off := 0 }) n n, u6, Value.int IntKind.i64 ↑i, Value.int IntKind.i64 ↑j, u9, u10, u11, u12, u13, u14, u15, u16, u17, u18, u19, u20, u21, u22, u23, u24, u25, u26, u27, u28, u29, u30, u31, u32, u33, u34, u35, u36, u37, u38, u39, u40, u41, u42, v0, v1, v2, v3, v4, v5, v6, v7, v8, v9, v10, v11, v12, v14, u57], defers := [] } ∧ VI 16 ex l [v0, v1, v2, v3, v4, v5, v6, v7, v8, v9, v10, v11, v12, v13, v14] ∧ (l.getD 13 false = false → W = w0) ∧ (l.getD 13 false = true → l.getD 15 false = false → W = w0.setCell ⟨g, i, none⟩ (.int .i64 b)) ∧ (l.getD 15 false = true → (∀ i, i < 15 → l.getD i false = true) ∧ W = (w0.setCell ⟨g, i, none⟩ (.int .i64 b)).setCell ⟨g, j, none⟩ (.int .i64 a)) ∧ (l.getD 13 false = true → l.getD 7 false = true ∧ l.getD 11 false = true)) ?_ ?_ ?_ ?_
  · exact ⟨u43, u44, u45, u46, u47, u48, u49, u50, u51, u52, u53, u54, u55, undef, u56, rfl, VI.start 16 ex _ (by rw [Hex.out]; rfl), fun _ => Hw0.out, (fun h => by rw [rep_false] at h; cases h), (fun h => by rw [rep_false] at h; cases h), (fun h => by rw [rep_false] at h; cases h)⟩
  · rintro l x W ⟨v0, v1, v2, v3, v4, v5, v6, v7, v8, v9, v10, v11, v12, v13, v14, rfl, T, _, _, _, _⟩
    exact T.sz
  · rintro l x W ⟨v0, v1, v2, v3, v4, v5, v6, v7, v8, v9, v10, v11, v12, v13, v14, rfl, T, hA, hB, hC, hD⟩ i hi
    obtain ⟨hi1, hi2, hi3⟩ := ready_mem hi
    have hi4 := no_true hi2
    have nN : l.getD 15 false = false := by
      cases h9 : l.getD 15 false with
      | false => rfl
      | true =>
        by_cases h : i = 15
        · subst h; rw [hi4] at h9; cases h9
        · have := (hC h9).1 i (by have h' : i < 16 := hi1; omega); rw [hi4] at this; cases this
    have HA := hide hA
    have HB := hide hB
    have HD := hide hD
    have HT := hide T
    have HNN := hide nN
    clear hA hB hC hD
    have hc : i = 0 ∨ i = 1 ∨ i = 2 ∨ i = 3 ∨ i = 4 ∨ i = 5 ∨ i = 6 ∨ i = 7 ∨ i = 8 ∨ i = 9 ∨ i = 10 ∨ i = 11 ∨ i = 12 ∨ i = 13 ∨ i = 14 ∨ i = 15 := by have h : i < 16 := hi1; omega
    rcases hc with rfl | rfl | rfl | rfl | rfl | rfl | rfl | rfl | rfl | rfl | rfl | rfl | rfl | rfl | rfl | rfl
    · clear hi hi1 hi2 hi3 hi4 T nN
      refine wpOp_step (o := { dst := some 43, op := Op.move (Operand.tmp 5), type := 49, pos := "top.go:126", after := #[], guard := none }) rfl (fun K hK => ?_)
      go_simp
      exact hK _ _ ⟨Value.slice (some { block := g, off := 0 }) n n, _, _, _, _, _, _, _, _, _, _, _, _, _, _, rfl, by have h := HT.out.set 0 (by decide); rw [Hex.out] at h ⊢; exact h, (fun h => by rw [set_other (by decide)] at h; exact HA.out h), (fun h h' => by rw [set_other (by decide)] at h h'; exact HB.out h h'), (fun h => by rw [set_other (by decide), HNN.out] at h; cases h), (fun h => by rw [set_other (by decide)] at h; rw [set_other (show (0 : Nat) ≠ 7 by decide), set_other (show (0 : Nat) ≠ 11 by decide)]; exact HD.out h)⟩
    · clear hi hi1 hi2 hi3 hi4 T nN
      refine wpOp_step (o := { dst := some 44, op := Op.move (Operand.tmp 7), type := 3, pos := "top.go:126", after := #[], guard := none }) rfl (fun K hK => ?_)
      go_simp
      exact hK _ _ ⟨_, Value.int IntKind.i64 ↑i, _, _, _, _, _, _, _, _, _, _, _, _, _, rfl, by have h := HT.out.set 1 (by decide); rw [Hex.out] at h ⊢; exact h, (fun h => by rw [set_other (by decide)] at h; exact HA.out h), (fun h h' => by rw [set_other (by decide)] at h h'; exact HB.out h h'), (fun h => by rw [set_other (by decide), HNN.out] at h; cases h), (fun h => by rw [set_other (by decide)] at h; rw [set_other (show (1 : Nat) ≠ 7 by decide), set_other (show (1 : Nat) ≠ 11 by decide)]; exact HD.out h)⟩
    · clear hi hi1 hi2 hi3 hi4 T nN
      refine wpOp_step (o := { dst := some 45, op := Op.move (Operand.tmp 5), type := 49, pos := "top.go:126", after := #[{ on := 13, ground := Ground.gcOnly Departure.lateStores }], guard := none }) rfl (fun K hK => ?_)
      go_simp
      exact hK _ _ ⟨_, _, Value.slice (some { block := g, off := 0 }) n n, _, _, _, _, _, _, _, _, _, _, _, _, rfl, by have h := HT.out.set 2 (by decide); rw [Hex.out] at h ⊢; exact h, (fun h => by rw [set_other (by decide)] at h; exact HA.out h), (fun h h' => by rw [set_other (by decide)] at h h'; exact HB.out h h'), (fun h => by rw [set_other (by decide), HNN.out] at h; cases h), (fun h => by rw [set_other (by decide)] at h; rw [set_other (show (2 : Nat) ≠ 7 by decide), set_other (show (2 : Nat) ≠ 11 by decide)]; exact HD.out h)⟩
    · clear hi hi1 hi2 hi3 hi4 T nN
      refine wpOp_step (o := { dst := some 46, op := Op.move (Operand.tmp 8), type := 3, pos := "top.go:126", after := #[{ on := 13, ground := Ground.gcOnly Departure.lateStores }], guard := none }) rfl (fun K hK => ?_)
      go_simp
      exact hK _ _ ⟨_, _, _, Value.int IntKind.i64 ↑j, _, _, _, _, _, _, _, _, _, _, _, rfl, by have h := HT.out.set 3 (by decide); rw [Hex.out] at h ⊢; exact h, (fun h => by rw [set_other (by decide)] at h; exact HA.out h), (fun h h' => by rw [set_other (by decide)] at h h'; exact HB.out h h'), (fun h => by rw [set_other (by decide), HNN.out] at h; cases h), (fun h => by rw [set_other (by decide)] at h; rw [set_other (show (3 : Nat) ≠ 7 by decide), set_other (show (3 : Nat) ≠ 11 by decide)]; exact HD.out h)⟩
    · clear hi hi1 hi2 hi3 hi4 T nN
      refine wpOp_step (o := { dst := some 47, op := Op.move (Operand.tmp 5), type := 49, pos := "top.go:126", after := #[], guard := none }) rfl (fun K hK => ?_)
      go_simp
      exact hK _ _ ⟨_, _, _, _, Value.slice (some { block := g, off := 0 }) n n, _, _, _, _, _, _, _, _, _, _, rfl, by have h := HT.out.set 4 (by decide); rw [Hex.out] at h ⊢; exact h, (fun h => by rw [set_other (by decide)] at h; exact HA.out h), (fun h h' => by rw [set_other (by decide)] at h h'; exact HB.out h h'), (fun h => by rw [set_other (by decide), HNN.out] at h; cases h), (fun h => by rw [set_other (by decide)] at h; rw [set_other (show (4 : Nat) ≠ 7 by decide), set_other (show (4 : Nat) ≠ 11 by decide)]; exact HD.out h)⟩
    · clear hi hi1 hi2 hi3 hi4 T nN
      refine wpOp_step (o := { dst := some 48, op := Op.move (Operand.tmp 8), type := 3, pos := "top.go:126", after := #[], guard := none }) rfl (fun K hK => ?_)
      go_simp
      exact hK _ _ ⟨_, _, _, _, _, Value.int IntKind.i64 ↑j, _, _, _, _, _, _, _, _, _, rfl, by have h := HT.out.set 5 (by decide); rw [Hex.out] at h ⊢; exact h, (fun h => by rw [set_other (by decide)] at h; exact HA.out h), (fun h h' => by rw [set_other (by decide)] at h h'; exact HB.out h h'), (fun h => by rw [set_other (by decide), HNN.out] at h; cases h), (fun h => by rw [set_other (by decide)] at h; rw [set_other (show (5 : Nat) ≠ 7 by decide), set_other (show (5 : Nat) ≠ 11 by decide)]; exact HD.out h)⟩
    · have d4 := hi3 _ rfl { on := 4, ground := Ground.data } (by simp) rfl
      have e4 : v4 = Value.slice (some { block := g, off := 0 }) n n := by have h := HT.out.val 4 (by rw [Hex.out]; simp) d4; rw [Hex.out] at h; exact h
      subst e4
      have d5 := hi3 _ rfl { on := 5, ground := Ground.data } (by simp) rfl
      have e5 : v5 = Value.int IntKind.i64 ↑j := by have h := HT.out.val 5 (by rw [Hex.out]; simp) d5; rw [Hex.out] at h; exact h
      subst e5
      clear hi hi1 hi2 hi3 hi4 T nN
      refine wpOp_step (o := { dst := some 49, op := Op.indexAddr 49 (Operand.tmp 47) (Operand.tmp 48), type := 0, pos := "top.go:126", after := #[{ on := 4, ground := Ground.data }, { on := 5, ground := Ground.data }], guard := none }) rfl (fun K hK => ?_)
      go_simp
      exact hK _ _ ⟨_, _, _, _, _, _, Value.pointer (some { block := g, off := j }), _, _, _, _, _, _, _, _, rfl, by have h := HT.out.set 6 (by decide); rw [Hex.out] at h ⊢; exact h, (fun h => by rw [set_other (by decide)] at h; exact HA.out h), (fun h h' => by rw [set_other (by decide)] at h h'; exact HB.out h h'), (fun h => by rw [set_other (by decide), HNN.out] at h; cases h), (fun h => by rw [set_other (by decide)] at h; rw [set_other (show (6 : Nat) ≠ 7 by decide), set_other (show (6 : Nat) ≠ 11 by decide)]; exact HD.out h)⟩
    · have d6 := hi3 _ rfl { on := 6, ground := Ground.data } (by simp) rfl
      have e6 : v6 = Value.pointer (some { block := g, off := j }) := by have h := HT.out.val 6 (by rw [Hex.out]; simp) d6; rw [Hex.out] at h; exact h
      subst e6
      have n13 : l.getD 13 false = false := by
        cases h9 : l.getD 13 false with
        | false => rfl
        | true => have := HD.out h9; simp [hi4] at this
      obtain rfl := HA.out n13
      clear n13
      have f1 := HB0.out
      clear hi hi1 hi2 hi3 hi4 T nN
      refine wpOp_step (o := { dst := some 50, op := Op.load 3 (Operand.tmp 49), type := 3, pos := "top.go:126", after := #[{ on := 6, ground := Ground.data }], guard := none }) rfl (fun K hK => ?_)
      go_simp
      exact hK _ _ ⟨_, _, _, _, _, _, _, Value.int IntKind.i64 b, _, _, _, _, _, _, _, rfl, by have h := HT.out.set 7 (by decide); rw [Hex.out] at h ⊢; exact h, (fun _ => rfl), (fun h h' => by rw [set_other (by decide)] at h h'; exact HB.out h h'), (fun h => by rw [set_other (by decide), HNN.out] at h; cases h), (fun h => by rw [set_other (by decide)] at h; have q := HD.out h; rw [set_same (show 7 < l.size by rw [HT.out.sz]; decide), set_other (show (7 : Nat) ≠ 11 by decide)]; exact ⟨rfl, q.2⟩)⟩
    · clear hi hi1 hi2 hi3 hi4 T nN
      refine wpOp_step (o := { dst := some 51, op := Op.move (Operand.tmp 5), type := 49, pos := "top.go:126", after := #[], guard := none }) rfl (fun K hK => ?_)
      go_simp
      exact hK _ _ ⟨_, _, _, _, _, _, _, _, Value.slice (some { block := g, off := 0 }) n n, _, _, _, _, _, _, rfl, by have h := HT.out.set 8 (by decide); rw [Hex.out] at h ⊢; exact h, (fun h => by rw [set_other (by decide)] at h; exact HA.out h), (fun h h' => by rw [set_other (by decide)] at h h'; exact HB.out h h'), (fun h => by rw [set_other (by decide), HNN.out] at h; cases h), (fun h => by rw [set_other (by decide)] at h; rw [set_other (show (8 : Nat) ≠ 7 by decide), set_other (show (8 : Nat) ≠ 11 by decide)]; exact HD.out h)⟩
    · clear hi hi1 hi2 hi3 hi4 T nN
      refine wpOp_step (o := { dst := some 52, op := Op.move (Operand.tmp 7), type := 3, pos := "top.go:126", after := #[], guard := none }) rfl (fun K hK => ?_)
      go_simp
      exact hK _ _ ⟨_, _, _, _, _, _, _, _, _, Value.int IntKind.i64 ↑i, _, _, _, _, _, rfl, by have h := HT.out.set 9 (by decide); rw [Hex.out] at h ⊢; exact h, (fun h => by rw [set_other (by decide)] at h; exact HA.out h), (fun h h' => by rw [set_other (by decide)] at h h'; exact HB.out h h'), (fun h => by rw [set_other (by decide), HNN.out] at h; cases h), (fun h => by rw [set_other (by decide)] at h; rw [set_other (show (9 : Nat) ≠ 7 by decide), set_other (show (9 : Nat) ≠ 11 by decide)]; exact HD.out h)⟩
    · have d8 := hi3 _ rfl { on := 8, ground := Ground.data } (by simp) rfl
      have e8 : v8 = Value.slice (some { block := g, off := 0 }) n n := by have h := HT.out.val 8 (by rw [Hex.out]; simp) d8; rw [Hex.out] at h; exact h
      subst e8
      have d9 := hi3 _ rfl { on := 9, ground := Ground.data } (by simp) rfl
      have e9 : v9 = Value.int IntKind.i64 ↑i := by have h := HT.out.val 9 (by rw [Hex.out]; simp) d9; rw [Hex.out] at h; exact h
      subst e9
      clear hi hi1 hi2 hi3 hi4 T nN
      refine wpOp_step (o := { dst := some 53, op := Op.indexAddr 49 (Operand.tmp 51) (Operand.tmp 52), type := 0, pos := "top.go:126", after := #[{ on := 8, ground := Ground.data }, { on := 9, ground := Ground.data }], guard := none }) rfl (fun K hK => ?_)
      go_simp
      exact hK _ _ ⟨_, _, _, _, _, _, _, _, _, _, Value.pointer (some { block := g, off := i }), _, _, _, _, rfl, by have h := HT.out.set 10 (by decide); rw [Hex.out] at h ⊢; exact h, (fun h => by rw [set_other (by decide)] at h; exact HA.out h), (fun h h' => by rw [set_other (by decide)] at h h'; exact HB.out h h'), (fun h => by rw [set_other (by decide), HNN.out] at h; cases h), (fun h => by rw [set_other (by decide)] at h; rw [set_other (show (10 : Nat) ≠ 7 by decide), set_other (show (10 : Nat) ≠ 11 by decide)]; exact HD.out h)⟩
    · have d10 := hi3 _ rfl { on := 10, ground := Ground.data } (by simp) rfl
      have e10 : v10 = Value.pointer (some { block := g, off := i }) := by have h := HT.out.val 10 (by rw [Hex.out]; simp) d10; rw [Hex.out] at h; exact h
      subst e10
      have n13 : l.getD 13 false = false := by
        cases h9 : l.getD 13 false with
        | false => rfl
        | true => have := HD.out h9; simp [hi4] at this
      obtain rfl := HA.out n13
      clear n13
      have f1 := HA0.out
      clear hi hi1 hi2 hi3 hi4 T nN
      refine wpOp_step (o := { dst := some 54, op := Op.load 3 (Operand.tmp 53), type := 3, pos := "top.go:126", after := #[{ on := 10, ground := Ground.data }], guard := none }) rfl (fun K hK => ?_)
      go_simp
      exact hK _ _ ⟨_, _, _, _, _, _, _, _, _, _, _, Value.int IntKind.i64 a, _, _, _, rfl, by have h := HT.out.set 11 (by decide); rw [Hex.out] at h ⊢; exact h, (fun _ => rfl), (fun h h' => by rw [set_other (by decide)] at h h'; exact HB.out h h'), (fun h => by rw [set_other (by decide), HNN.out] at h; cases h), (fun h => by rw [set_other (by decide)] at h; have q := HD.out h; rw [set_other (show (11 : Nat) ≠ 7 by decide), set_same (show 11 < l.size by rw [HT.out.sz]; decide)]; exact ⟨q.1, rfl⟩)⟩
    · have d0 := hi3 _ rfl { on := 0, ground := Ground.data } (by simp) rfl
      have e0 : v0 = Value.slice (some { block := g, off := 0 }) n n := by have h := HT.out.val 0 (by rw [Hex.out]; simp) d0; rw [Hex.out] at h; exact h
      subst e0
      have d1 := hi3 _ rfl { on := 1, ground := Ground.data } (by simp) rfl
      have e1 : v1 = Value.int IntKind.i64 ↑i := by have h := HT.out.val 1 (by rw [Hex.out]; simp) d1; rw [Hex.out] at h; exact h
      subst e1
      clear hi hi1 hi2 hi3 hi4 T nN
      refine wpOp_step (o := { dst := some 55, op := Op.indexAddr 49 (Operand.tmp 43) (Operand.tmp 44), type := 0, pos := "top.go:126", after := #[{ on := 0, ground := Ground.data }, { on := 1, ground := Ground.data }, { on := 0, ground := Ground.phase }, { on := 1, ground := Ground.phase }, { on := 2, ground := Ground.textOnly Departure.lateStores }, { on := 3, ground := Ground.textOnly Departure.lateStores }, { on := 4, ground := Ground.phase }, { on := 5, ground := Ground.phase }, { on := 6, ground := Ground.phase }, { on := 7, ground := Ground.phase }, { on := 8, ground := Ground.textOnly Departure.lateStores }, { on := 9, ground := Ground.textOnly Departure.lateStores }, { on := 10, ground := Ground.textOnly Departure.lateStoresUnsure }, { on := 11, ground := Ground.phase }], guard := none }) rfl (fun K hK => ?_)
      go_simp
      exact hK _ _ ⟨_, _, _, _, _, _, _, _, _, _, _, _, Value.pointer (some { block := g, off := i }), _, _, rfl, by have h := HT.out.set 12 (by decide); rw [Hex.out] at h ⊢; exact h, (fun h => by rw [set_other (by decide)] at h; exact HA.out h), (fun h h' => by rw [set_other (by decide)] at h h'; exact HB.out h h'), (fun h => by rw [set_other (by decide), HNN.out] at h; cases h), (fun h => by rw [set_other (by decide)] at h; rw [set_other (show (12 : Nat) ≠ 7 by decide), set_other (show (12 : Nat) ≠ 11 by decide)]; exact HD.out h)⟩
    · have d12 := hi3 _ rfl { on := 12, ground := Ground.data } (by simp) rfl
      have e12 : v12 = Value.pointer (some { block := g, off := i }) := by have h := HT.out.val 12 (by rw [Hex.out]; simp) d12; rw [Hex.out] at h; exact h
      subst e12
      have d7 := hi3 _ rfl { on := 7, ground := Ground.data } (by simp) rfl
      have e7 : v7 = Value.int IntKind.i64 b := by have h := HT.out.val 7 (by rw [Hex.out]; simp) d7; rw [Hex.out] at h; exact h
      subst e7
      have d11 := hi3 _ rfl { on := 11, ground := Ground.phase } (by simp) rfl
      obtain rfl := HA.out hi4
      have HLD := hide (And.intro d7 d11)
      have f1 := HA0.out
      have f2 := HF0.out
      clear hi hi1 hi2 hi3 hi4 T nN
      refine wpOp_step (o := { dst := none, op := Op.store 3 (Operand.tmp 55) (Operand.tmp 50), type := 0, pos := "top.go:126", after := #[{ on := 12, ground := Ground.data }, { on := 7, ground := Ground.data }, { on := 0, ground := Ground.phase }, { on := 1, ground := Ground.phase }, { on := 2, ground := Ground.textOnly Departure.lateStores }, { on := 3, ground := Ground.textOnly Departure.lateStores }, { on := 4, ground := Ground.phase }, { on := 5, ground := Ground.phase }, { on := 6, ground := Ground.phase }, { on := 7, ground := Ground.phase }, { on := 8, ground := Ground.textOnly Departure.lateStores }, { on := 9, ground := Ground.textOnly Departure.lateStores }, { on := 10, ground := Ground.textOnly Departure.lateStoresUnsure }, { on := 11, ground := Ground.phase }], guard := none }) rfl (fun K hK => ?_)
      go_simp
      exact hK _ _ ⟨_, _, _, _, _, _, _, _, _, _, _, _, _, undef, _, rfl, by have h := HT.out.set 13 (by decide); rw [Hex.out] at h ⊢; exact h, (fun h => by rw [set_same (by rw [HT.out.sz]; decide)] at h; cases h), fun _ _ => rfl, (fun h => by rw [set_other (by decide), HNN.out] at h; cases h), fun _ => by rw [set_other (show (13 : Nat) ≠ 7 by decide), set_other (show (13 : Nat) ≠ 11 by decide)]; exact HLD.out⟩
    · have d2 := hi3 _ rfl { on := 2, ground := Ground.data } (by simp) rfl
      have e2 : v2 = Value.slice (some { block := g, off := 0 }) n n := by have h := HT.out.val 2 (by rw [Hex.out]; simp) d2; rw [Hex.out] at h; exact h
      subst e2
      have d3 := hi3 _ rfl { on := 3, ground := Ground.data } (by simp) rfl
      have e3 : v3 = Value.int IntKind.i64 ↑j := by have h := HT.out.val 3 (by rw [Hex.out]; simp) d3; rw [Hex.out] at h; exact h
      subst e3
      clear hi hi1 hi2 hi3 hi4 T nN
      refine wpOp_step (o := { dst := some 56, op := Op.indexAddr 49 (Operand.tmp 45) (Operand.tmp 46), type := 0, pos := "top.go:126", after := #[{ on := 2, ground := Ground.data }, { on := 3, ground := Ground.data }, { on := 0, ground := Ground.phase }, { on := 1, ground := Ground.phase }, { on := 2, ground := Ground.phase }, { on := 3, ground := Ground.phase }, { on := 4, ground := Ground.phase }, { on := 5, ground := Ground.phase }, { on := 6, ground := Ground.phase }, { on := 7, ground := Ground.phase }, { on := 8, ground := Ground.phase }, { on := 9, ground := Ground.phase }, { on := 10, ground := Ground.phase }, { on := 11, ground := Ground.phase }, { on := 12, ground := Ground.phase }, { on := 13, ground := Ground.phase }], guard := none }) rfl (fun K hK => ?_)
      go_simp
      exact hK _ _ ⟨_, _, _, _, _, _, _, _, _, _, _, _, _, _, Value.pointer (some { block := g, off := j }), rfl, by have h := HT.out.set 14 (by decide); rw [Hex.out] at h ⊢; exact h, (fun h => by rw [set_other (by decide)] at h; exact HA.out h), (fun h h' => by rw [set_other (by decide)] at h h'; exact HB.out h h'), (fun h => by rw [set_other (by decide), HNN.out] at h; cases h), (fun h => by rw [set_other (by decide)] at h; rw [set_other (show (14 : Nat) ≠ 7 by decide), set_other (show (14 : Nat) ≠ 11 by decide)]; exact HD.out h)⟩
    · have d14 := hi3 _ rfl { on := 14, ground := Ground.data } (by simp) rfl
      have e14 : v14 = Value.pointer (some { block := g, off := j }) := by have h := HT.out.val 14 (by rw [Hex.out]; simp) d14; rw [Hex.out] at h; exact h
      subst e14
      have d11 := hi3 _ rfl { on := 11, ground := Ground.data } (by simp) rfl
      have e11 : v11 = Value.int IntKind.i64 a := by have h := HT.out.val 11 (by rw [Hex.out]; simp) d11; rw [Hex.out] at h; exact h
      subst e11
      have d13 := hi3 _ rfl { on := 13, ground := Ground.chain } (by simp) rfl
      have hall : ∀ i, i < 15 → l.getD i false = true := fun i h => by
        have hc : i = 0 ∨ i = 1 ∨ i = 2 ∨ i = 3 ∨ i = 4 ∨ i = 5 ∨ i = 6 ∨ i = 7 ∨ i = 8 ∨ i = 9 ∨ i = 10 ∨ i = 11 ∨ i = 12 ∨ i = 13 ∨ i = 14 := by omega
        rcases hc with rfl | rfl | rfl | rfl | rfl | rfl | rfl | rfl | rfl | rfl | rfl | rfl | rfl | rfl | rfl
        · exact hi3 _ rfl { on := 0, ground := Ground.phase } (by simp) rfl
        · exact hi3 _ rfl { on := 1, ground := Ground.phase } (by simp) rfl
        · exact hi3 _ rfl { on := 2, ground := Ground.phase } (by simp) rfl
        · exact hi3 _ rfl { on := 3, ground := Ground.phase } (by simp) rfl
        · exact hi3 _ rfl { on := 4, ground := Ground.phase } (by simp) rfl
        · exact hi3 _ rfl { on := 5, ground := Ground.phase } (by simp) rfl
        · exact hi3 _ rfl { on := 6, ground := Ground.phase } (by simp) rfl
        · exact hi3 _ rfl { on := 7, ground := Ground.phase } (by simp) rfl
        · exact hi3 _ rfl { on := 8, ground := Ground.phase } (by simp) rfl
        · exact hi3 _ rfl { on := 9, ground := Ground.phase } (by simp) rfl
        · exact hi3 _ rfl { on := 10, ground := Ground.phase } (by simp) rfl
        · exact hi3 _ rfl { on := 11, ground := Ground.data } (by simp) rfl
        · exact hi3 _ rfl { on := 12, ground := Ground.phase } (by simp) rfl
        · exact hi3 _ rfl { on := 13, ground := Ground.chain } (by simp) rfl
        · exact hi3 _ rfl { on := 14, ground := Ground.data } (by simp) rfl
      have HALL := hide hall
      obtain rfl := HB.out d13 nN
      have f1 := HB1.out
      have f2 := HF1.out
      clear hi hi1 hi2 hi3 hi4 T nN hall
      refine wpOp_step (o := { dst := none, op := Op.store 3 (Operand.tmp 56) (Operand.tmp 54), type := 0, pos := "top.go:126", after := #[{ on := 14, ground := Ground.data }, { on := 11, ground := Ground.data }, { on := 13, ground := Ground.chain }, { on := 0, ground := Ground.phase }, { on := 1, ground := Ground.phase }, { on := 2, ground := Ground.phase }, { on := 3, ground := Ground.phase }, { on := 4, ground := Ground.phase }, { on := 5, ground := Ground.phase }, { on := 6, ground := Ground.phase }, { on := 7, ground := Ground.phase }, { on := 8, ground := Ground.phase }, { on := 9, ground := Ground.phase }, { on := 10, ground := Ground.phase }, { on := 11, ground := Ground.phase }, { on := 12, ground := Ground.phase }, { on := 13, ground := Ground.phase }], guard := none }) rfl (fun K hK => ?_)
      go_simp
      exact hK _ _ ⟨_, _, _, _, _, _, _, _, _, _, _, _, _, _, _, rfl, by have h := HT.out.set 15 (by decide); rw [Hex.out] at h ⊢; exact h, (fun h => by rw [set_other (by decide), HALL.out 13 (by decide)] at h; cases h), (fun _ h => by rw [set_same (by rw [HT.out.sz]; decide)] at h; cases h), fun _ => ⟨fun i hi => by rw [set_other (by omega)]; exact HALL.out i hi, rfl⟩, fun _ => by rw [set_other (show (15 : Nat) ≠ 7 by decide), set_other (show (15 : Nat) ≠ 11 by decide)]; exact ⟨HALL.out 7 (by decide), HALL.out 11 (by decide)⟩⟩
  · rintro l x W ⟨v0, v1, v2, v3, v4, v5, v6, v7, v8, v9, v10, v11, v12, v13, v14, rfl, T, hA, hB, hC, hD⟩ hnil
    have hd := ready_done (by kernel_rfl) T.sz hnil
    obtain ⟨hall, rfl⟩ := hC (hd 15 (by decide))
    obtain rfl : v0 = Value.slice (some { block := g, off := 0 }) n n := by have h := T.val 0 (by rw [Hex.out]; simp) (hall 0 (by decide)); rw [Hex.out] at h; exact h
    obtain rfl : v1 = Value.int IntKind.i64 ↑i := by have h := T.val 1 (by rw [Hex.out]; simp) (hall 1 (by decide)); rw [Hex.out] at h; exact h
    obtain rfl : v2 = Value.slice (some { block := g, off := 0 }) n n := by have h := T.val 2 (by rw [Hex.out]; simp) (hall 2 (by decide)); rw [Hex.out] at h; exact h
    obtain rfl : v3 = Value.int IntKind.i64 ↑j := by have h := T.val 3 (by rw [Hex.out]; simp) (hall 3 (by decide)); rw [Hex.out] at h; exact h
    obtain rfl : v4 = Value.slice (some { block := g, off := 0 }) n n := by have h := T.val 4 (by rw [Hex.out]; simp) (hall 4 (by decide)); rw [Hex.out] at h; exact h
    obtain rfl : v5 = Value.int IntKind.i64 ↑j := by have h := T.val 5 (by rw [Hex.out]; simp) (hall 5 (by decide)); rw [Hex.out] at h; exact h
    obtain rfl : v6 = Value.pointer (some { block := g, off := j }) := by have h := T.val 6 (by rw [Hex.out]; simp) (hall 6 (by decide)); rw [Hex.out] at h; exact h
    obtain rfl : v7 = Value.int IntKind.i64 b := by have h := T.val 7 (by rw [Hex.out]; simp) (hall 7 (by decide)); rw [Hex.out] at h; exact h
    obtain rfl : v8 = Value.slice (some { block := g, off := 0 }) n n := by have h := T.val 8 (by rw [Hex.out]; simp) (hall 8 (by decide)); rw [Hex.out] at h; exact h
    obtain rfl : v9 = Value.int IntKind.i64 ↑i := by have h := T.val 9 (by rw [Hex.out]; simp) (hall 9 (by decide)); rw [Hex.out] at h; exact h
    obtain rfl : v10 = Value.pointer (some { block := g, off := i }) := by have h := T.val 10 (by rw [Hex.out]; simp) (hall 10 (by decide)); rw [Hex.out] at h; exact h
    obtain rfl : v11 = Value.int IntKind.i64 a := by have h := T.val 11 (by rw [Hex.out]; simp) (hall 11 (by decide)); rw [Hex.out] at h; exact h
    obtain rfl : v12 = Value.pointer (some { block := g, off := i }) := by have h := T.val 12 (by rw [Hex.out]; simp) (hall 12 (by decide)); rw [Hex.out] at h; exact h
    obtain rfl : v14 = Value.pointer (some { block := g, off := j }) := by have h := T.val 14 (by rw [Hex.out]; simp) (hall 14 (by decide)); rw [Hex.out] at h; exact h
    rw [← Hw0.out]
    exact HQ.out
end Go.Proofs.Ytmhdhedjeaaciaa
