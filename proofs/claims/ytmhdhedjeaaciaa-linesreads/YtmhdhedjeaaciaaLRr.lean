/- Drawn regions of the reference's Lines and Line. -/
import Derived.Test.YtmhdhedjeaaciaaLRp
import Derived.Test.YtmhdhedjeaaciaaLRt
import Derived.Test.YtmhdhedjeaaciaaLRg
namespace Go.Proofs.Ytmhdhedjeaaciaa
open Go.RowKit

theorem drew_cell (w : World) (a : Addr) : w.drew.cell? a = w.cell? a := rfl
theorem drew_frozen (w : World) (a : Addr) : w.drew.frozen? a = w.frozen? a := rfl
set_option maxRecDepth 100000 in
set_option maxHeartbeats 8000000 in
theorem region11 (g m c6 n2 c2 k t : Nat) (ad : Addr) (xq eq z : Int) (u0 u1 u2 u3 u8 u9 u10 u11 u12 u13 u14 u15 u16 u17 u18 u19 u20 u21 u22 u23 u24 u25 u26 u27 u28 u29 u30 u31 u32 u33 u34 u35 u36 u37 u38 u39 u40 u41 u42 u43 u44 u45 u46 u47 u48 u49 u50 u51 u52 u53 u54 u55 u56 u57 u58 u59 u60 u61 u62 u63 u64 u65 u66 u67 u68 u69 u70 u71 u72 : Value) {Q : Exit → Act → World → Prop} (w : World) (htm : t < m) (hkn : k < n2) (_ : m ≤ 3518437208883) (_ : n2 ≤ 3518437208883) (_ : (ad.add (k * 4)).spot = none) (hc : w.cell? ⟨g, t * 3 + 1, none⟩ = some (.int .i64 xq)) (hfr : w.frozen? ⟨g, t * 3 + 1, none⟩ = false) (he : w.cell? ⟨(ad.add (k * 4)).block, (ad.add (k * 4)).off + 3, none⟩ = some (.int .i64 eq)) (hz : IntKind.i64.wrap (xq + eq) = z)
    (hQ : Q .normal { tmps := #[u0, u1, u2, u3, Value.slice (some ad) n2 c2, Value.slice (some { block := g, off := 0 }) m c6, Value.int IntKind.i64 ↑k, Value.int IntKind.i64 ↑t, u8, u9, u10, u11, u12, u13, u14, u15, u16, u17, u18, u19, u20, u21, u22, u23, u24, u25, u26, u27, u28, u29, u30, u31, u32, u33, u34, u35, u36, u37, u38, u39, u40, u41, u42, u43, u44, u45, u46, Value.slice (some { block := g, off := 0 }) m c6, Value.int IntKind.i64 ↑t, Value.slice (some { block := g, off := 0 }) m c6, Value.int IntKind.i64 ↑t, Value.pointer (some { block := g, off := t * 3 }), Value.pointer (some { block := g, off := t * 3 + 1 }), Value.int IntKind.i64 xq, Value.slice (some ad) n2 c2, Value.int IntKind.i64 ↑k, Value.pointer (some (ad.add (k * 4))), Value.pointer (some { block := (ad.add (k * 4)).block, off := (ad.add (k * 4)).off + 3 }), Value.int IntKind.i64 eq, Value.int IntKind.i64 z, Value.pointer (some { block := g, off := t * 3 }), Value.pointer (some { block := g, off := t * 3 + 1 }), u62, u63, u64, u65, u66, u67, u68, u69, u70, u71, u72], defers := [] } (w.drew.setCell ⟨g, t * 3 + 1, none⟩ (.int .i64 z))) :
    (Code.region 11 #[{ dst := some 47, op := Op.move (Operand.tmp 5), type := 24, pos := "ref.go:237", after := #[], guard := none }, { dst := some 48, op := Op.move (Operand.tmp 7), type := 3, pos := "ref.go:237", after := #[], guard := none }, { dst := some 49, op := Op.move (Operand.tmp 5), type := 24, pos := "ref.go:237", after := #[], guard := none }, { dst := some 50, op := Op.move (Operand.tmp 7), type := 3, pos := "ref.go:237", after := #[], guard := none }, { dst := some 51, op := Op.indexAddr 24 (Operand.tmp 49) (Operand.tmp 50), type := 0, pos := "ref.go:237", after := #[{ on := 2, ground := Ground.data }, { on := 3, ground := Ground.data }], guard := none }, { dst := some 52, op := Op.fieldAddr 29 (Operand.tmp 51) 1, type := 0, pos := "ref.go:237", after := #[{ on := 4, ground := Ground.data }], guard := none }, { dst := some 53, op := Op.load 3 (Operand.tmp 52), type := 3, pos := "ref.go:237", after := #[{ on := 5, ground := Ground.data }], guard := none }, { dst := some 54, op := Op.move (Operand.tmp 4), type := 22, pos := "ref.go:237", after := #[], guard := none }, { dst := some 55, op := Op.move (Operand.tmp 6), type := 3, pos := "ref.go:237", after := #[], guard := none }, { dst := some 56, op := Op.indexAddr 22 (Operand.tmp 54) (Operand.tmp 55), type := 0, pos := "ref.go:237", after := #[{ on := 7, ground := Ground.data }, { on := 8, ground := Ground.data }], guard := none }, { dst := some 57, op := Op.fieldAddr 40 (Operand.tmp 56) 2, type := 0, pos := "ref.go:237", after := #[{ on := 9, ground := Ground.data }], guard := none }, { dst := some 58, op := Op.load 3 (Operand.tmp 57), type := 3, pos := "ref.go:237", after := #[{ on := 10, ground := Ground.data }], guard := none }, { dst := some 59, op := Op.binOp BinOp.add 3 (Operand.tmp 53) (Operand.tmp 58) 3, type := 3, pos := "ref.go:237", after := #[{ on := 6, ground := Ground.data }, { on := 11, ground := Ground.data }], guard := none }, { dst := some 60, op := Op.indexAddr 24 (Operand.tmp 47) (Operand.tmp 48), type := 0, pos := "ref.go:237", after := #[{ on := 0, ground := Ground.data }, { on := 1, ground := Ground.data }, { on := 0, ground := Ground.phase }, { on := 1, ground := Ground.phase }, { on := 2, ground := Ground.phase }, { on := 3, ground := Ground.phase }, { on := 4, ground := Ground.phase }, { on := 5, ground := Ground.phase }, { on := 6, ground := Ground.phase }, { on := 7, ground := Ground.phase }, { on := 8, ground := Ground.phase }, { on := 9, ground := Ground.phase }, { on := 10, ground := Ground.phase }, { on := 11, ground := Ground.phase }, { on := 12, ground := Ground.phase }], guard := none }, { dst := some 61, op := Op.fieldAddr 29 (Operand.tmp 60) 1, type := 0, pos := "ref.go:237", after := #[{ on := 13, ground := Ground.data }, { on := 0, ground := Ground.phase }, { on := 1, ground := Ground.phase }, { on := 2, ground := Ground.phase }, { on := 3, ground := Ground.phase }, { on := 4, ground := Ground.phase }, { on := 5, ground := Ground.phase }, { on := 6, ground := Ground.phase }, { on := 7, ground := Ground.phase }, { on := 8, ground := Ground.phase }, { on := 9, ground := Ground.phase }, { on := 10, ground := Ground.phase }, { on := 11, ground := Ground.phase }, { on := 12, ground := Ground.phase }], guard := none }, { dst := none, op := Op.store 3 (Operand.tmp 61) (Operand.tmp 59), type := 0, pos := "ref.go:237", after := #[{ on := 14, ground := Ground.data }, { on := 12, ground := Ground.data }, { on := 0, ground := Ground.phase }, { on := 1, ground := Ground.phase }, { on := 2, ground := Ground.phase }, { on := 3, ground := Ground.phase }, { on := 4, ground := Ground.phase }, { on := 5, ground := Ground.phase }, { on := 6, ground := Ground.phase }, { on := 7, ground := Ground.phase }, { on := 8, ground := Ground.phase }, { on := 9, ground := Ground.phase }, { on := 10, ground := Ground.phase }, { on := 11, ground := Ground.phase }, { on := 12, ground := Ground.phase }], guard := none }] true).wp Try.prog Q { tmps := #[u0, u1, u2, u3, Value.slice (some ad) n2 c2, Value.slice (some { block := g, off := 0 }) m c6, Value.int IntKind.i64 ↑k, Value.int IntKind.i64 ↑t, u8, u9, u10, u11, u12, u13, u14, u15, u16, u17, u18, u19, u20, u21, u22, u23, u24, u25, u26, u27, u28, u29, u30, u31, u32, u33, u34, u35, u36, u37, u38, u39, u40, u41, u42, u43, u44, u45, u46, u47, u48, u49, u50, u51, u52, u53, u54, u55, u56, u57, u58, u59, u60, u61, u62, u63, u64, u65, u66, u67, u68, u69, u70, u71, u72], defers := [] } w := by
  have HQ := hide hQ
  have HC := hide hc
  have HE := hide he
  have HFR := hide hfr
  clear hc he hfr
  clear hQ
  obtain ⟨w0, Hw0⟩ : ∃ w0, Hid (w.drew = w0) := ⟨_, rfl⟩
  have HC0 : Hid (w0.cell? ⟨g, t * 3 + 1, none⟩ = some (.int .i64 xq)) := by show _ = _; rw [← Hw0.out]; exact HC.out
  have HE0 : Hid (w0.cell? ⟨(ad.add (k * 4)).block, (ad.add (k * 4)).off + 3, none⟩ = some (.int .i64 eq)) := by show _ = _; rw [← Hw0.out]; exact HE.out
  have HF0 : Hid (w0.frozen? ⟨g, t * 3 + 1, none⟩ = false) := by show _ = _; rw [← Hw0.out]; exact HFR.out
  obtain ⟨ex, Hex⟩ : ∃ ex, Hid (ex = [Value.slice (some { block := g, off := 0 }) m c6, Value.int IntKind.i64 ↑t, Value.slice (some { block := g, off := 0 }) m c6, Value.int IntKind.i64 ↑t, Value.pointer (some { block := g, off := t * 3 }), Value.pointer (some { block := g, off := t * 3 + 1 }), Value.int IntKind.i64 xq, Value.slice (some ad) n2 c2, Value.int IntKind.i64 ↑k, Value.pointer (some (ad.add (k * 4))), Value.pointer (some { block := (ad.add (k * 4)).block, off := (ad.add (k * 4)).off + 3 }), Value.int IntKind.i64 eq, Value.int IntKind.i64 z, Value.pointer (some { block := g, off := t * 3 }), Value.pointer (some { block := g, off := t * 3 + 1 })]) := ⟨_, rfl⟩
  refine wp_region_inv (by kernel_rfl) (fun l x W => ∃ v0 v1 v2 v3 v4 v5 v6 v7 v8 v9 v10 v11 v12 v13 v14, x = { tmps := #[u0, u1, u2, u3, Value.slice (some ad) n2 c2, Value.slice (some { block := g, off := 0 }) m c6, Value.int IntKind.i64 ↑k, Value.int IntKind.i64 ↑t, u8, u9, u10, u11, u12, u13, u14, u15, u16, u17, u18, u19, u20, u21, u22, u23, u24, u25, u26, u27, u28, u29, u30, u31, u32, u33, u34, u35, u36, u37, u38, u39, u40, u41, u42, u43, u44, u45, u46, v0, v1, v2, v3, v4, v5, v6, v7, v8, v9, v10, v11, v12, v13, v14, u62, u63, u64, u65, u66, u67, u68, u69, u70, u71, u72], defers := [] } ∧ VI 16 ex l [v0, v1, v2, v3, v4, v5, v6, v7, v8, v9, v10, v11, v12, v13, v14] ∧ (l.getD 15 false = false → W = w0) ∧ (l.getD 15 false = true → (∀ i, i < 15 → l.getD i false = true) ∧ W = w0.setCell ⟨g, t * 3 + 1, none⟩ (.int .i64 z)) ∧ (l.getD 14 false = true → l.getD 13 false = true)) ?_ ?_ ?_ ?_
  · exact ⟨u47, u48, u49, u50, u51, u52, u53, u54, u55, u56, u57, u58, u59, u60, u61, rfl, VI.start 16 ex _ (by rw [Hex.out]; rfl), fun _ => Hw0.out, (fun h => by rw [rep_false] at h; cases h), (fun h => by rw [rep_false] at h; cases h)⟩
  · rintro l x W ⟨v0, v1, v2, v3, v4, v5, v6, v7, v8, v9, v10, v11, v12, v13, v14, rfl, T, _, _, _⟩
    exact T.sz
  · rintro l x W ⟨v0, v1, v2, v3, v4, v5, v6, v7, v8, v9, v10, v11, v12, v13, v14, rfl, T, hb, hf, hcl13⟩ i hi
    obtain ⟨hi1, hi2, hi3⟩ := ready_mem hi
    have hi4 := no_true hi2
    have nN : l.getD 15 false = false := by
      cases h9 : l.getD 15 false with
      | false => rfl
      | true =>
        by_cases h : i = 15
        · subst h; rw [hi4] at h9; cases h9
        · have := (hf h9).1 i (by have h' : i < 16 := hi1; omega); rw [hi4] at this; cases this
    obtain rfl := hb nN
    have HT := hide T
    have HNN := hide nN
    have HCL13 := hide hcl13
    clear hb hf hcl13
    have hc : i = 0 ∨ i = 1 ∨ i = 2 ∨ i = 3 ∨ i = 4 ∨ i = 5 ∨ i = 6 ∨ i = 7 ∨ i = 8 ∨ i = 9 ∨ i = 10 ∨ i = 11 ∨ i = 12 ∨ i = 13 ∨ i = 14 ∨ i = 15 := by have h : i < 16 := hi1; omega
    rcases hc with rfl | rfl | rfl | rfl | rfl | rfl | rfl | rfl | rfl | rfl | rfl | rfl | rfl | rfl | rfl | rfl
    · clear hi hi1 hi2 hi3 hi4 T nN
      refine wpOp_step (o := { dst := some 47, op := Op.move (Operand.tmp 5), type := 24, pos := "ref.go:237", after := #[], guard := none }) rfl (fun K hK => ?_)
      go_simp
      exact hK _ _ ⟨Value.slice (some { block := g, off := 0 }) m c6, _, _, _, _, _, _, _, _, _, _, _, _, _, _, rfl, by have h := HT.out.set 0 (by decide); rw [Hex.out] at h ⊢; exact h, fun _ => rfl, (fun h => by rw [set_other (by decide), HNN.out] at h; cases h), (fun h => by rw [set_other (by decide)] at h ⊢; exact HCL13.out h)⟩
    · clear hi hi1 hi2 hi3 hi4 T nN
      refine wpOp_step (o := { dst := some 48, op := Op.move (Operand.tmp 7), type := 3, pos := "ref.go:237", after := #[], guard := none }) rfl (fun K hK => ?_)
      go_simp
      exact hK _ _ ⟨_, Value.int IntKind.i64 ↑t, _, _, _, _, _, _, _, _, _, _, _, _, _, rfl, by have h := HT.out.set 1 (by decide); rw [Hex.out] at h ⊢; exact h, fun _ => rfl, (fun h => by rw [set_other (by decide), HNN.out] at h; cases h), (fun h => by rw [set_other (by decide)] at h ⊢; exact HCL13.out h)⟩
    · clear hi hi1 hi2 hi3 hi4 T nN
      refine wpOp_step (o := { dst := some 49, op := Op.move (Operand.tmp 5), type := 24, pos := "ref.go:237", after := #[], guard := none }) rfl (fun K hK => ?_)
      go_simp
      exact hK _ _ ⟨_, _, Value.slice (some { block := g, off := 0 }) m c6, _, _, _, _, _, _, _, _, _, _, _, _, rfl, by have h := HT.out.set 2 (by decide); rw [Hex.out] at h ⊢; exact h, fun _ => rfl, (fun h => by rw [set_other (by decide), HNN.out] at h; cases h), (fun h => by rw [set_other (by decide)] at h ⊢; exact HCL13.out h)⟩
    · clear hi hi1 hi2 hi3 hi4 T nN
      refine wpOp_step (o := { dst := some 50, op := Op.move (Operand.tmp 7), type := 3, pos := "ref.go:237", after := #[], guard := none }) rfl (fun K hK => ?_)
      go_simp
      exact hK _ _ ⟨_, _, _, Value.int IntKind.i64 ↑t, _, _, _, _, _, _, _, _, _, _, _, rfl, by have h := HT.out.set 3 (by decide); rw [Hex.out] at h ⊢; exact h, fun _ => rfl, (fun h => by rw [set_other (by decide), HNN.out] at h; cases h), (fun h => by rw [set_other (by decide)] at h ⊢; exact HCL13.out h)⟩
    · have d2 := hi3 _ rfl { on := 2, ground := Ground.data } (by simp) rfl
      have e2 : v2 = Value.slice (some { block := g, off := 0 }) m c6 := by have h := HT.out.val 2 (by rw [Hex.out]; simp) d2; rw [Hex.out] at h; exact h
      subst e2
      have d3 := hi3 _ rfl { on := 3, ground := Ground.data } (by simp) rfl
      have e3 : v3 = Value.int IntKind.i64 ↑t := by have h := HT.out.val 3 (by rw [Hex.out]; simp) d3; rw [Hex.out] at h; exact h
      subst e3
      clear hi hi1 hi2 hi3 hi4 T nN
      refine wpOp_step (o := { dst := some 51, op := Op.indexAddr 24 (Operand.tmp 49) (Operand.tmp 50), type := 0, pos := "ref.go:237", after := #[{ on := 2, ground := Ground.data }, { on := 3, ground := Ground.data }], guard := none }) rfl (fun K hK => ?_)
      go_simp
      exact hK _ _ ⟨_, _, _, _, Value.pointer (some { block := g, off := t * 3 }), _, _, _, _, _, _, _, _, _, _, rfl, by have h := HT.out.set 4 (by decide); rw [Hex.out] at h ⊢; exact h, fun _ => rfl, (fun h => by rw [set_other (by decide), HNN.out] at h; cases h), (fun h => by rw [set_other (by decide)] at h ⊢; exact HCL13.out h)⟩
    · have d4 := hi3 _ rfl { on := 4, ground := Ground.data } (by simp) rfl
      have e4 : v4 = Value.pointer (some { block := g, off := t * 3 }) := by have h := HT.out.val 4 (by rw [Hex.out]; simp) d4; rw [Hex.out] at h; exact h
      subst e4
      clear hi hi1 hi2 hi3 hi4 T nN
      refine wpOp_step (o := { dst := some 52, op := Op.fieldAddr 29 (Operand.tmp 51) 1, type := 0, pos := "ref.go:237", after := #[{ on := 4, ground := Ground.data }], guard := none }) rfl (fun K hK => ?_)
      go_simp
      exact hK _ _ ⟨_, _, _, _, _, Value.pointer (some { block := g, off := t * 3 + 1 }), _, _, _, _, _, _, _, _, _, rfl, by have h := HT.out.set 5 (by decide); rw [Hex.out] at h ⊢; exact h, fun _ => rfl, (fun h => by rw [set_other (by decide), HNN.out] at h; cases h), (fun h => by rw [set_other (by decide)] at h ⊢; exact HCL13.out h)⟩
    · have d5 := hi3 _ rfl { on := 5, ground := Ground.data } (by simp) rfl
      have e5 : v5 = Value.pointer (some { block := g, off := t * 3 + 1 }) := by have h := HT.out.val 5 (by rw [Hex.out]; simp) d5; rw [Hex.out] at h; exact h
      subst e5
      have f1 := HC0.out
      clear hi hi1 hi2 hi3 hi4 T nN
      refine wpOp_step (o := { dst := some 53, op := Op.load 3 (Operand.tmp 52), type := 3, pos := "ref.go:237", after := #[{ on := 5, ground := Ground.data }], guard := none }) rfl (fun K hK => ?_)
      go_simp
      exact hK _ _ ⟨_, _, _, _, _, _, Value.int IntKind.i64 xq, _, _, _, _, _, _, _, _, rfl, by have h := HT.out.set 6 (by decide); rw [Hex.out] at h ⊢; exact h, fun _ => rfl, (fun h => by rw [set_other (by decide), HNN.out] at h; cases h), (fun h => by rw [set_other (by decide)] at h ⊢; exact HCL13.out h)⟩
    · clear hi hi1 hi2 hi3 hi4 T nN
      refine wpOp_step (o := { dst := some 54, op := Op.move (Operand.tmp 4), type := 22, pos := "ref.go:237", after := #[], guard := none }) rfl (fun K hK => ?_)
      go_simp
      exact hK _ _ ⟨_, _, _, _, _, _, _, Value.slice (some ad) n2 c2, _, _, _, _, _, _, _, rfl, by have h := HT.out.set 7 (by decide); rw [Hex.out] at h ⊢; exact h, fun _ => rfl, (fun h => by rw [set_other (by decide), HNN.out] at h; cases h), (fun h => by rw [set_other (by decide)] at h ⊢; exact HCL13.out h)⟩
    · clear hi hi1 hi2 hi3 hi4 T nN
      refine wpOp_step (o := { dst := some 55, op := Op.move (Operand.tmp 6), type := 3, pos := "ref.go:237", after := #[], guard := none }) rfl (fun K hK => ?_)
      go_simp
      exact hK _ _ ⟨_, _, _, _, _, _, _, _, Value.int IntKind.i64 ↑k, _, _, _, _, _, _, rfl, by have h := HT.out.set 8 (by decide); rw [Hex.out] at h ⊢; exact h, fun _ => rfl, (fun h => by rw [set_other (by decide), HNN.out] at h; cases h), (fun h => by rw [set_other (by decide)] at h ⊢; exact HCL13.out h)⟩
    · have d7 := hi3 _ rfl { on := 7, ground := Ground.data } (by simp) rfl
      have e7 : v7 = Value.slice (some ad) n2 c2 := by have h := HT.out.val 7 (by rw [Hex.out]; simp) d7; rw [Hex.out] at h; exact h
      subst e7
      have d8 := hi3 _ rfl { on := 8, ground := Ground.data } (by simp) rfl
      have e8 : v8 = Value.int IntKind.i64 ↑k := by have h := HT.out.val 8 (by rw [Hex.out]; simp) d8; rw [Hex.out] at h; exact h
      subst e8
      clear hi hi1 hi2 hi3 hi4 T nN
      refine wpOp_step (o := { dst := some 56, op := Op.indexAddr 22 (Operand.tmp 54) (Operand.tmp 55), type := 0, pos := "ref.go:237", after := #[{ on := 7, ground := Ground.data }, { on := 8, ground := Ground.data }], guard := none }) rfl (fun K hK => ?_)
      go_simp
      exact hK _ _ ⟨_, _, _, _, _, _, _, _, _, Value.pointer (some (ad.add (k * 4))), _, _, _, _, _, rfl, by have h := HT.out.set 9 (by decide); rw [Hex.out] at h ⊢; exact h, fun _ => rfl, (fun h => by rw [set_other (by decide), HNN.out] at h; cases h), (fun h => by rw [set_other (by decide)] at h ⊢; exact HCL13.out h)⟩
    · have d9 := hi3 _ rfl { on := 9, ground := Ground.data } (by simp) rfl
      have e9 : v9 = Value.pointer (some (ad.add (k * 4))) := by have h := HT.out.val 9 (by rw [Hex.out]; simp) d9; rw [Hex.out] at h; exact h
      subst e9
      clear hi hi1 hi2 hi3 hi4 T nN
      refine wpOp_step (o := { dst := some 57, op := Op.fieldAddr 40 (Operand.tmp 56) 2, type := 0, pos := "ref.go:237", after := #[{ on := 9, ground := Ground.data }], guard := none }) rfl (fun K hK => ?_)
      go_simp
      exact hK _ _ ⟨_, _, _, _, _, _, _, _, _, _, Value.pointer (some { block := (ad.add (k * 4)).block, off := (ad.add (k * 4)).off + 3 }), _, _, _, _, rfl, by have h := HT.out.set 10 (by decide); rw [Hex.out] at h ⊢; exact h, fun _ => rfl, (fun h => by rw [set_other (by decide), HNN.out] at h; cases h), (fun h => by rw [set_other (by decide)] at h ⊢; exact HCL13.out h)⟩
    · have d10 := hi3 _ rfl { on := 10, ground := Ground.data } (by simp) rfl
      have e10 : v10 = Value.pointer (some { block := (ad.add (k * 4)).block, off := (ad.add (k * 4)).off + 3 }) := by have h := HT.out.val 10 (by rw [Hex.out]; simp) d10; rw [Hex.out] at h; exact h
      subst e10
      have f1 := HE0.out
      clear hi hi1 hi2 hi3 hi4 T nN
      refine wpOp_step (o := { dst := some 58, op := Op.load 3 (Operand.tmp 57), type := 3, pos := "ref.go:237", after := #[{ on := 10, ground := Ground.data }], guard := none }) rfl (fun K hK => ?_)
      go_simp
      exact hK _ _ ⟨_, _, _, _, _, _, _, _, _, _, _, Value.int IntKind.i64 eq, _, _, _, rfl, by have h := HT.out.set 11 (by decide); rw [Hex.out] at h ⊢; exact h, fun _ => rfl, (fun h => by rw [set_other (by decide), HNN.out] at h; cases h), (fun h => by rw [set_other (by decide)] at h ⊢; exact HCL13.out h)⟩
    · have d6 := hi3 _ rfl { on := 6, ground := Ground.data } (by simp) rfl
      have e6 : v6 = Value.int IntKind.i64 xq := by have h := HT.out.val 6 (by rw [Hex.out]; simp) d6; rw [Hex.out] at h; exact h
      subst e6
      have d11 := hi3 _ rfl { on := 11, ground := Ground.data } (by simp) rfl
      have e11 : v11 = Value.int IntKind.i64 eq := by have h := HT.out.val 11 (by rw [Hex.out]; simp) d11; rw [Hex.out] at h; exact h
      subst e11
      clear hi hi1 hi2 hi3 hi4 T nN
      refine wpOp_step (o := { dst := some 59, op := Op.binOp BinOp.add 3 (Operand.tmp 53) (Operand.tmp 58) 3, type := 3, pos := "ref.go:237", after := #[{ on := 6, ground := Ground.data }, { on := 11, ground := Ground.data }], guard := none }) rfl (fun K hK => ?_)
      go_simp
      exact hK _ _ ⟨_, _, _, _, _, _, _, _, _, _, _, _, Value.int IntKind.i64 z, _, _, rfl, by have h := HT.out.set 12 (by decide); rw [Hex.out] at h ⊢; exact h, fun _ => rfl, (fun h => by rw [set_other (by decide), HNN.out] at h; cases h), (fun h => by rw [set_other (by decide)] at h ⊢; exact HCL13.out h)⟩
    · have d0 := hi3 _ rfl { on := 0, ground := Ground.data } (by simp) rfl
      have e0 : v0 = Value.slice (some { block := g, off := 0 }) m c6 := by have h := HT.out.val 0 (by rw [Hex.out]; simp) d0; rw [Hex.out] at h; exact h
      subst e0
      have d1 := hi3 _ rfl { on := 1, ground := Ground.data } (by simp) rfl
      have e1 : v1 = Value.int IntKind.i64 ↑t := by have h := HT.out.val 1 (by rw [Hex.out]; simp) d1; rw [Hex.out] at h; exact h
      subst e1
      clear hi hi1 hi2 hi3 hi4 T nN
      refine wpOp_step (o := { dst := some 60, op := Op.indexAddr 24 (Operand.tmp 47) (Operand.tmp 48), type := 0, pos := "ref.go:237", after := #[{ on := 0, ground := Ground.data }, { on := 1, ground := Ground.data }, { on := 0, ground := Ground.phase }, { on := 1, ground := Ground.phase }, { on := 2, ground := Ground.phase }, { on := 3, ground := Ground.phase }, { on := 4, ground := Ground.phase }, { on := 5, ground := Ground.phase }, { on := 6, ground := Ground.phase }, { on := 7, ground := Ground.phase }, { on := 8, ground := Ground.phase }, { on := 9, ground := Ground.phase }, { on := 10, ground := Ground.phase }, { on := 11, ground := Ground.phase }, { on := 12, ground := Ground.phase }], guard := none }) rfl (fun K hK => ?_)
      go_simp
      exact hK _ _ ⟨_, _, _, _, _, _, _, _, _, _, _, _, _, Value.pointer (some { block := g, off := t * 3 }), _, rfl, by have h := HT.out.set 13 (by decide); rw [Hex.out] at h ⊢; exact h, fun _ => rfl, (fun h => by rw [set_other (by decide), HNN.out] at h; cases h), (fun _ => set_same (by rw [HT.out.sz]; decide))⟩
    · have d13 := hi3 _ rfl { on := 13, ground := Ground.data } (by simp) rfl
      have e13 : v13 = Value.pointer (some { block := g, off := t * 3 }) := by have h := HT.out.val 13 (by rw [Hex.out]; simp) d13; rw [Hex.out] at h; exact h
      subst e13
      clear hi hi1 hi2 hi3 hi4 T nN
      refine wpOp_step (o := { dst := some 61, op := Op.fieldAddr 29 (Operand.tmp 60) 1, type := 0, pos := "ref.go:237", after := #[{ on := 13, ground := Ground.data }, { on := 0, ground := Ground.phase }, { on := 1, ground := Ground.phase }, { on := 2, ground := Ground.phase }, { on := 3, ground := Ground.phase }, { on := 4, ground := Ground.phase }, { on := 5, ground := Ground.phase }, { on := 6, ground := Ground.phase }, { on := 7, ground := Ground.phase }, { on := 8, ground := Ground.phase }, { on := 9, ground := Ground.phase }, { on := 10, ground := Ground.phase }, { on := 11, ground := Ground.phase }, { on := 12, ground := Ground.phase }], guard := none }) rfl (fun K hK => ?_)
      go_simp
      exact hK _ _ ⟨_, _, _, _, _, _, _, _, _, _, _, _, _, _, Value.pointer (some { block := g, off := t * 3 + 1 }), rfl, by have h := HT.out.set 14 (by decide); rw [Hex.out] at h ⊢; exact h, fun _ => rfl, (fun h => by rw [set_other (by decide), HNN.out] at h; cases h), (fun _ => by rw [set_other (by decide)]; exact d13)⟩
    · have d14 := hi3 _ rfl { on := 14, ground := Ground.data } (by simp) rfl
      have e14 : v14 = Value.pointer (some { block := g, off := t * 3 + 1 }) := by have h := HT.out.val 14 (by rw [Hex.out]; simp) d14; rw [Hex.out] at h; exact h
      subst e14
      have d12 := hi3 _ rfl { on := 12, ground := Ground.data } (by simp) rfl
      have e12 : v12 = Value.int IntKind.i64 z := by have h := HT.out.val 12 (by rw [Hex.out]; simp) d12; rw [Hex.out] at h; exact h
      subst e12
      have hall : ∀ i, i < 15 → l.getD i false = true := fun i h => by
        have hc : i = 0 ∨ i = 1 ∨ i = 2 ∨ i = 3 ∨ i = 4 ∨ i = 5 ∨ i = 6 ∨ i = 7 ∨ i = 8 ∨ i = 9 ∨ i = 10 ∨ i = 11 ∨ i = 12 ∨ i = 13 ∨ i = 14 := by omega
        rcases hc with rfl | rfl | rfl | rfl | rfl | rfl | rfl | rfl | rfl | rfl | rfl | rfl | rfl | rfl | rfl
        · exact hi3 _ rfl { on := 0, ground := Ground.phase } (by simp) rfl
        · exact hi3 _ rfl { on := 1, ground := Ground.phase } (by simp) rfl
        · exact hi3 _ rfl { on := 2, ground := Ground.phase } (by simp) rfl
        · exact hi3 _ rfl { on := 3, ground := Ground.phase } (by simp) rfl
        · exact hi3 _ rfl { on := 4, ground := Ground.phase } (by simp) rfl
        · exact hi3 _ rfl { on := 5, ground := Ground.phase } (by simp) rfl
        · exact hi3 _ rfl { on := 6, ground := Ground.phase } (by simp) rfl
        · exact hi3 _ rfl { on := 7, ground := Ground.phase } (by simp) rfl
        · exact hi3 _ rfl { on := 8, ground := Ground.phase } (by simp) rfl
        · exact hi3 _ rfl { on := 9, ground := Ground.phase } (by simp) rfl
        · exact hi3 _ rfl { on := 10, ground := Ground.phase } (by simp) rfl
        · exact hi3 _ rfl { on := 11, ground := Ground.phase } (by simp) rfl
        · exact hi3 _ rfl { on := 12, ground := Ground.data } (by simp) rfl
        · exact HCL13.out (hi3 _ rfl { on := 14, ground := Ground.data } (by simp) rfl)
        · exact hi3 _ rfl { on := 14, ground := Ground.data } (by simp) rfl
      have HALL := hide hall
      have f1 := HC0.out
      have f2 := HF0.out
      clear hi hi1 hi2 hi3 hi4 T nN hall
      refine wpOp_step (o := { dst := none, op := Op.store 3 (Operand.tmp 61) (Operand.tmp 59), type := 0, pos := "ref.go:237", after := #[{ on := 14, ground := Ground.data }, { on := 12, ground := Ground.data }, { on := 0, ground := Ground.phase }, { on := 1, ground := Ground.phase }, { on := 2, ground := Ground.phase }, { on := 3, ground := Ground.phase }, { on := 4, ground := Ground.phase }, { on := 5, ground := Ground.phase }, { on := 6, ground := Ground.phase }, { on := 7, ground := Ground.phase }, { on := 8, ground := Ground.phase }, { on := 9, ground := Ground.phase }, { on := 10, ground := Ground.phase }, { on := 11, ground := Ground.phase }, { on := 12, ground := Ground.phase }], guard := none }) rfl (fun K hK => ?_)
      go_simp
      exact hK _ _ ⟨_, _, _, _, _, _, _, _, _, _, _, _, _, _, _, rfl, by have h := HT.out.set 15 (by decide); rw [Hex.out] at h ⊢; exact h, (fun h => by rw [set_same (by rw [HT.out.sz]; decide)] at h; cases h), fun _ => ⟨fun i hi => by rw [set_other (by omega)]; exact HALL.out i hi, rfl⟩, (fun h => by rw [set_other (by decide)] at h ⊢; exact HCL13.out h)⟩
  · rintro l x W ⟨v0, v1, v2, v3, v4, v5, v6, v7, v8, v9, v10, v11, v12, v13, v14, rfl, T, hb, hf, _⟩ hnil
    have hd := ready_done (by kernel_rfl) T.sz hnil
    obtain ⟨hall, rfl⟩ := hf (hd 15 (by decide))
    obtain rfl : v0 = Value.slice (some { block := g, off := 0 }) m c6 := by have h := T.val 0 (by rw [Hex.out]; simp) (hall 0 (by decide)); rw [Hex.out] at h; exact h
    obtain rfl : v1 = Value.int IntKind.i64 ↑t := by have h := T.val 1 (by rw [Hex.out]; simp) (hall 1 (by decide)); rw [Hex.out] at h; exact h
    obtain rfl : v2 = Value.slice (some { block := g, off := 0 }) m c6 := by have h := T.val 2 (by rw [Hex.out]; simp) (hall 2 (by decide)); rw [Hex.out] at h; exact h
    obtain rfl : v3 = Value.int IntKind.i64 ↑t := by have h := T.val 3 (by rw [Hex.out]; simp) (hall 3 (by decide)); rw [Hex.out] at h; exact h
    obtain rfl : v4 = Value.pointer (some { block := g, off := t * 3 }) := by have h := T.val 4 (by rw [Hex.out]; simp) (hall 4 (by decide)); rw [Hex.out] at h; exact h
    obtain rfl : v5 = Value.pointer (some { block := g, off := t * 3 + 1 }) := by have h := T.val 5 (by rw [Hex.out]; simp) (hall 5 (by decide)); rw [Hex.out] at h; exact h
    obtain rfl : v6 = Value.int IntKind.i64 xq := by have h := T.val 6 (by rw [Hex.out]; simp) (hall 6 (by decide)); rw [Hex.out] at h; exact h
    obtain rfl : v7 = Value.slice (some ad) n2 c2 := by have h := T.val 7 (by rw [Hex.out]; simp) (hall 7 (by decide)); rw [Hex.out] at h; exact h
    obtain rfl : v8 = Value.int IntKind.i64 ↑k := by have h := T.val 8 (by rw [Hex.out]; simp) (hall 8 (by decide)); rw [Hex.out] at h; exact h
    obtain rfl : v9 = Value.pointer (some (ad.add (k * 4))) := by have h := T.val 9 (by rw [Hex.out]; simp) (hall 9 (by decide)); rw [Hex.out] at h; exact h
    obtain rfl : v10 = Value.pointer (some { block := (ad.add (k * 4)).block, off := (ad.add (k * 4)).off + 3 }) := by have h := T.val 10 (by rw [Hex.out]; simp) (hall 10 (by decide)); rw [Hex.out] at h; exact h
    obtain rfl : v11 = Value.int IntKind.i64 eq := by have h := T.val 11 (by rw [Hex.out]; simp) (hall 11 (by decide)); rw [Hex.out] at h; exact h
    obtain rfl : v12 = Value.int IntKind.i64 z := by have h := T.val 12 (by rw [Hex.out]; simp) (hall 12 (by decide)); rw [Hex.out] at h; exact h
    obtain rfl : v13 = Value.pointer (some { block := g, off := t * 3 }) := by have h := T.val 13 (by rw [Hex.out]; simp) (hall 13 (by decide)); rw [Hex.out] at h; exact h
    obtain rfl : v14 = Value.pointer (some { block := g, off := t * 3 + 1 }) := by have h := T.val 14 (by rw [Hex.out]; simp) (hall 14 (by decide)); rw [Hex.out] at h; exact h
    rw [← Hw0.out]
    exact HQ.out
set_option maxRecDepth 100000 in
set_option maxHeartbeats 8000000 in
theorem region8 (g n2 c2 k : Nat) (ad : Addr) (xq eq z : Int) (u0 u1 u2 u3 u4 u5 u7 u10 u11 u12 u13 u14 u15 u16 u17 u18 u19 u20 u21 u22 u23 u24 u25 u26 u27 u28 u29 u30 u31 u32 u33 u34 u35 u36 u37 u38 u39 u40 u41 u42 u43 u44 u45 u46 : Value) {Q : Exit → Act → World → Prop} (w : World) (hkn : k < n2) (_ : n2 ≤ 3518437208883) (_ : (ad.add (k * 4)).spot = none) (hc : w.cell? ⟨g, 1, none⟩ = some (.int .i64 xq)) (hfr : w.frozen? ⟨g, 1, none⟩ = false) (he : w.cell? ⟨(ad.add (k * 4)).block, (ad.add (k * 4)).off + 3, none⟩ = some (.int .i64 eq)) (hz : IntKind.i64.wrap (xq + eq) = z)
    (hQ : Q .normal { tmps := #[u0, u1, u2, u3, u4, u5, Value.slice (some ad) n2 c2, u7, Value.pointer (some { block := g, off := 0 }), Value.int IntKind.i64 ↑k, u10, u11, u12, u13, u14, u15, u16, u17, u18, u19, u20, u21, u22, u23, u24, u25, u26, u27, u28, u29, u30, u31, u32, Value.pointer (some { block := g, off := 1 }), Value.int IntKind.i64 xq, Value.slice (some ad) n2 c2, Value.int IntKind.i64 ↑k, Value.pointer (some (ad.add (k * 4))), Value.pointer (some { block := (ad.add (k * 4)).block, off := (ad.add (k * 4)).off + 3 }), Value.int IntKind.i64 eq, Value.int IntKind.i64 z, Value.pointer (some { block := g, off := 1 }), u42, u43, u44, u45, u46], defers := [] } (w.drew.setCell ⟨g, 1, none⟩ (.int .i64 z))) :
    (Code.region 8 #[{ dst := some 33, op := Op.fieldAddr 29 (Operand.tmp 8) 1, type := 0, pos := "ref.go:251", after := #[], guard := none }, { dst := some 34, op := Op.load 3 (Operand.tmp 33), type := 3, pos := "ref.go:251", after := #[{ on := 0, ground := Ground.data }], guard := none }, { dst := some 35, op := Op.move (Operand.tmp 6), type := 22, pos := "ref.go:251", after := #[], guard := none }, { dst := some 36, op := Op.move (Operand.tmp 9), type := 3, pos := "ref.go:251", after := #[], guard := none }, { dst := some 37, op := Op.indexAddr 22 (Operand.tmp 35) (Operand.tmp 36), type := 0, pos := "ref.go:251", after := #[{ on := 2, ground := Ground.data }, { on := 3, ground := Ground.data }], guard := none }, { dst := some 38, op := Op.fieldAddr 40 (Operand.tmp 37) 2, type := 0, pos := "ref.go:251", after := #[{ on := 4, ground := Ground.data }], guard := none }, { dst := some 39, op := Op.load 3 (Operand.tmp 38), type := 3, pos := "ref.go:251", after := #[{ on := 5, ground := Ground.data }], guard := none }, { dst := some 40, op := Op.binOp BinOp.add 3 (Operand.tmp 34) (Operand.tmp 39) 3, type := 3, pos := "ref.go:251", after := #[{ on := 1, ground := Ground.data }, { on := 6, ground := Ground.data }], guard := none }, { dst := some 41, op := Op.fieldAddr 29 (Operand.tmp 8) 1, type := 0, pos := "ref.go:251", after := #[{ on := 0, ground := Ground.phase }, { on := 1, ground := Ground.phase }, { on := 2, ground := Ground.phase }, { on := 3, ground := Ground.phase }, { on := 4, ground := Ground.phase }, { on := 5, ground := Ground.phase }, { on := 6, ground := Ground.phase }, { on := 7, ground := Ground.phase }], guard := none }, { dst := none, op := Op.store 3 (Operand.tmp 41) (Operand.tmp 40), type := 0, pos := "ref.go:251", after := #[{ on := 8, ground := Ground.data }, { on := 7, ground := Ground.data }, { on := 0, ground := Ground.phase }, { on := 1, ground := Ground.phase }, { on := 2, ground := Ground.phase }, { on := 3, ground := Ground.phase }, { on := 4, ground := Ground.phase }, { on := 5, ground := Ground.phase }, { on := 6, ground := Ground.phase }, { on := 7, ground := Ground.phase }], guard := none }] true).wp Try.prog Q { tmps := #[u0, u1, u2, u3, u4, u5, Value.slice (some ad) n2 c2, u7, Value.pointer (some { block := g, off := 0 }), Value.int IntKind.i64 ↑k, u10, u11, u12, u13, u14, u15, u16, u17, u18, u19, u20, u21, u22, u23, u24, u25, u26, u27, u28, u29, u30, u31, u32, u33, u34, u35, u36, u37, u38, u39, u40, u41, u42, u43, u44, u45, u46], defers := [] } w := by
  have HQ := hide hQ
  have HC := hide hc
  have HE := hide he
  have HFR := hide hfr
  clear hc he hfr
  clear hQ
  obtain ⟨w0, Hw0⟩ : ∃ w0, Hid (w.drew = w0) := ⟨_, rfl⟩
  have HC0 : Hid (w0.cell? ⟨g, 1, none⟩ = some (.int .i64 xq)) := by show _ = _; rw [← Hw0.out]; exact HC.out
  have HE0 : Hid (w0.cell? ⟨(ad.add (k * 4)).block, (ad.add (k * 4)).off + 3, none⟩ = some (.int .i64 eq)) := by show _ = _; rw [← Hw0.out]; exact HE.out
  have HF0 : Hid (w0.frozen? ⟨g, 1, none⟩ = false) := by show _ = _; rw [← Hw0.out]; exact HFR.out
  obtain ⟨ex, Hex⟩ : ∃ ex, Hid (ex = [Value.pointer (some { block := g, off := 1 }), Value.int IntKind.i64 xq, Value.slice (some ad) n2 c2, Value.int IntKind.i64 ↑k, Value.pointer (some (ad.add (k * 4))), Value.pointer (some { block := (ad.add (k * 4)).block, off := (ad.add (k * 4)).off + 3 }), Value.int IntKind.i64 eq, Value.int IntKind.i64 z, Value.pointer (some { block := g, off := 1 })]) := ⟨_, rfl⟩
  refine wp_region_inv (by kernel_rfl) (fun l x W => ∃ v0 v1 v2 v3 v4 v5 v6 v7 v8, x = { tmps := #[u0, u1, u2, u3, u4, u5, Value.slice (some ad) n2 c2, u7, Value.pointer (some { block := g, off := 0 }), Value.int IntKind.i64 ↑k, u10, u11, u12, u13, u14, u15, u16, u17, u18, u19, u20, u21, u22, u23, u24, u25, u26, u27, u28, u29, u30, u31, u32, v0, v1, v2, v3, v4, v5, v6, v7, v8, u42, u43, u44, u45, u46], defers := [] } ∧ VI 10 ex l [v0, v1, v2, v3, v4, v5, v6, v7, v8] ∧ (l.getD 9 false = false → W = w0) ∧ (l.getD 9 false = true → (∀ i, i < 9 → l.getD i false = true) ∧ W = w0.setCell ⟨g, 1, none⟩ (.int .i64 z))) ?_ ?_ ?_ ?_
  · exact ⟨u33, u34, u35, u36, u37, u38, u39, u40, u41, rfl, VI.start 10 ex _ (by rw [Hex.out]; rfl), fun _ => Hw0.out, (fun h => by rw [rep_false] at h; cases h)⟩
  · rintro l x W ⟨v0, v1, v2, v3, v4, v5, v6, v7, v8, rfl, T, _, _⟩
    exact T.sz
  · rintro l x W ⟨v0, v1, v2, v3, v4, v5, v6, v7, v8, rfl, T, hb, hf⟩ i hi
    obtain ⟨hi1, hi2, hi3⟩ := ready_mem hi
    have hi4 := no_true hi2
    have nN : l.getD 9 false = false := by
      cases h9 : l.getD 9 false with
      | false => rfl
      | true =>
        by_cases h : i = 9
        · subst h; rw [hi4] at h9; cases h9
        · have := (hf h9).1 i (by have h' : i < 10 := hi1; omega); rw [hi4] at this; cases this
    obtain rfl := hb nN
    have HT := hide T
    have HNN := hide nN
    clear hb hf
    have hc : i = 0 ∨ i = 1 ∨ i = 2 ∨ i = 3 ∨ i = 4 ∨ i = 5 ∨ i = 6 ∨ i = 7 ∨ i = 8 ∨ i = 9 := by have h : i < 10 := hi1; omega
    rcases hc with rfl | rfl | rfl | rfl | rfl | rfl | rfl | rfl | rfl | rfl
    · clear hi hi1 hi2 hi3 hi4 T nN
      refine wpOp_step (o := { dst := some 33, op := Op.fieldAddr 29 (Operand.tmp 8) 1, type := 0, pos := "ref.go:251", after := #[], guard := none }) rfl (fun K hK => ?_)
      go_simp
      exact hK _ _ ⟨Value.pointer (some { block := g, off := 1 }), _, _, _, _, _, _, _, _, rfl, by have h := HT.out.set 0 (by decide); rw [Hex.out] at h ⊢; exact h, fun _ => rfl, (fun h => by rw [set_other (by decide), HNN.out] at h; cases h)⟩
    · have d0 := hi3 _ rfl { on := 0, ground := Ground.data } (by simp) rfl
      have e0 : v0 = Value.pointer (some { block := g, off := 1 }) := by have h := HT.out.val 0 (by rw [Hex.out]; simp) d0; rw [Hex.out] at h; exact h
      subst e0
      have f1 := HC0.out
      clear hi hi1 hi2 hi3 hi4 T nN
      refine wpOp_step (o := { dst := some 34, op := Op.load 3 (Operand.tmp 33), type := 3, pos := "ref.go:251", after := #[{ on := 0, ground := Ground.data }], guard := none }) rfl (fun K hK => ?_)
      go_simp
      exact hK _ _ ⟨_, Value.int IntKind.i64 xq, _, _, _, _, _, _, _, rfl, by have h := HT.out.set 1 (by decide); rw [Hex.out] at h ⊢; exact h, fun _ => rfl, (fun h => by rw [set_other (by decide), HNN.out] at h; cases h)⟩
    · clear hi hi1 hi2 hi3 hi4 T nN
      refine wpOp_step (o := { dst := some 35, op := Op.move (Operand.tmp 6), type := 22, pos := "ref.go:251", after := #[], guard := none }) rfl (fun K hK => ?_)
      go_simp
      exact hK _ _ ⟨_, _, Value.slice (some ad) n2 c2, _, _, _, _, _, _, rfl, by have h := HT.out.set 2 (by decide); rw [Hex.out] at h ⊢; exact h, fun _ => rfl, (fun h => by rw [set_other (by decide), HNN.out] at h; cases h)⟩
    · clear hi hi1 hi2 hi3 hi4 T nN
      refine wpOp_step (o := { dst := some 36, op := Op.move (Operand.tmp 9), type := 3, pos := "ref.go:251", after := #[], guard := none }) rfl (fun K hK => ?_)
      go_simp
      exact hK _ _ ⟨_, _, _, Value.int IntKind.i64 ↑k, _, _, _, _, _, rfl, by have h := HT.out.set 3 (by decide); rw [Hex.out] at h ⊢; exact h, fun _ => rfl, (fun h => by rw [set_other (by decide), HNN.out] at h; cases h)⟩
    · have d2 := hi3 _ rfl { on := 2, ground := Ground.data } (by simp) rfl
      have e2 : v2 = Value.slice (some ad) n2 c2 := by have h := HT.out.val 2 (by rw [Hex.out]; simp) d2; rw [Hex.out] at h; exact h
      subst e2
      have d3 := hi3 _ rfl { on := 3, ground := Ground.data } (by simp) rfl
      have e3 : v3 = Value.int IntKind.i64 ↑k := by have h := HT.out.val 3 (by rw [Hex.out]; simp) d3; rw [Hex.out] at h; exact h
      subst e3
      clear hi hi1 hi2 hi3 hi4 T nN
      refine wpOp_step (o := { dst := some 37, op := Op.indexAddr 22 (Operand.tmp 35) (Operand.tmp 36), type := 0, pos := "ref.go:251", after := #[{ on := 2, ground := Ground.data }, { on := 3, ground := Ground.data }], guard := none }) rfl (fun K hK => ?_)
      go_simp
      exact hK _ _ ⟨_, _, _, _, Value.pointer (some (ad.add (k * 4))), _, _, _, _, rfl, by have h := HT.out.set 4 (by decide); rw [Hex.out] at h ⊢; exact h, fun _ => rfl, (fun h => by rw [set_other (by decide), HNN.out] at h; cases h)⟩
    · have d4 := hi3 _ rfl { on := 4, ground := Ground.data } (by simp) rfl
      have e4 : v4 = Value.pointer (some (ad.add (k * 4))) := by have h := HT.out.val 4 (by rw [Hex.out]; simp) d4; rw [Hex.out] at h; exact h
      subst e4
      clear hi hi1 hi2 hi3 hi4 T nN
      refine wpOp_step (o := { dst := some 38, op := Op.fieldAddr 40 (Operand.tmp 37) 2, type := 0, pos := "ref.go:251", after := #[{ on := 4, ground := Ground.data }], guard := none }) rfl (fun K hK => ?_)
      go_simp
      exact hK _ _ ⟨_, _, _, _, _, Value.pointer (some { block := (ad.add (k * 4)).block, off := (ad.add (k * 4)).off + 3 }), _, _, _, rfl, by have h := HT.out.set 5 (by decide); rw [Hex.out] at h ⊢; exact h, fun _ => rfl, (fun h => by rw [set_other (by decide), HNN.out] at h; cases h)⟩
    · have d5 := hi3 _ rfl { on := 5, ground := Ground.data } (by simp) rfl
      have e5 : v5 = Value.pointer (some { block := (ad.add (k * 4)).block, off := (ad.add (k * 4)).off + 3 }) := by have h := HT.out.val 5 (by rw [Hex.out]; simp) d5; rw [Hex.out] at h; exact h
      subst e5
      have f1 := HE0.out
      clear hi hi1 hi2 hi3 hi4 T nN
      refine wpOp_step (o := { dst := some 39, op := Op.load 3 (Operand.tmp 38), type := 3, pos := "ref.go:251", after := #[{ on := 5, ground := Ground.data }], guard := none }) rfl (fun K hK => ?_)
      go_simp
      exact hK _ _ ⟨_, _, _, _, _, _, Value.int IntKind.i64 eq, _, _, rfl, by have h := HT.out.set 6 (by decide); rw [Hex.out] at h ⊢; exact h, fun _ => rfl, (fun h => by rw [set_other (by decide), HNN.out] at h; cases h)⟩
    · have d1 := hi3 _ rfl { on := 1, ground := Ground.data } (by simp) rfl
      have e1 : v1 = Value.int IntKind.i64 xq := by have h := HT.out.val 1 (by rw [Hex.out]; simp) d1; rw [Hex.out] at h; exact h
      subst e1
      have d6 := hi3 _ rfl { on := 6, ground := Ground.data } (by simp) rfl
      have e6 : v6 = Value.int IntKind.i64 eq := by have h := HT.out.val 6 (by rw [Hex.out]; simp) d6; rw [Hex.out] at h; exact h
      subst e6
      clear hi hi1 hi2 hi3 hi4 T nN
      refine wpOp_step (o := { dst := some 40, op := Op.binOp BinOp.add 3 (Operand.tmp 34) (Operand.tmp 39) 3, type := 3, pos := "ref.go:251", after := #[{ on := 1, ground := Ground.data }, { on := 6, ground := Ground.data }], guard := none }) rfl (fun K hK => ?_)
      go_simp
      exact hK _ _ ⟨_, _, _, _, _, _, _, Value.int IntKind.i64 z, _, rfl, by have h := HT.out.set 7 (by decide); rw [Hex.out] at h ⊢; exact h, fun _ => rfl, (fun h => by rw [set_other (by decide), HNN.out] at h; cases h)⟩
    · clear hi hi1 hi2 hi3 hi4 T nN
      refine wpOp_step (o := { dst := some 41, op := Op.fieldAddr 29 (Operand.tmp 8) 1, type := 0, pos := "ref.go:251", after := #[{ on := 0, ground := Ground.phase }, { on := 1, ground := Ground.phase }, { on := 2, ground := Ground.phase }, { on := 3, ground := Ground.phase }, { on := 4, ground := Ground.phase }, { on := 5, ground := Ground.phase }, { on := 6, ground := Ground.phase }, { on := 7, ground := Ground.phase }], guard := none }) rfl (fun K hK => ?_)
      go_simp
      exact hK _ _ ⟨_, _, _, _, _, _, _, _, Value.pointer (some { block := g, off := 1 }), rfl, by have h := HT.out.set 8 (by decide); rw [Hex.out] at h ⊢; exact h, fun _ => rfl, (fun h => by rw [set_other (by decide), HNN.out] at h; cases h)⟩
    · have d8 := hi3 _ rfl { on := 8, ground := Ground.data } (by simp) rfl
      have e8 : v8 = Value.pointer (some { block := g, off := 1 }) := by have h := HT.out.val 8 (by rw [Hex.out]; simp) d8; rw [Hex.out] at h; exact h
      subst e8
      have d7 := hi3 _ rfl { on := 7, ground := Ground.data } (by simp) rfl
      have e7 : v7 = Value.int IntKind.i64 z := by have h := HT.out.val 7 (by rw [Hex.out]; simp) d7; rw [Hex.out] at h; exact h
      subst e7
      have hall : ∀ i, i < 9 → l.getD i false = true := fun i h => by
        have hc : i = 0 ∨ i = 1 ∨ i = 2 ∨ i = 3 ∨ i = 4 ∨ i = 5 ∨ i = 6 ∨ i = 7 ∨ i = 8 := by omega
        rcases hc with rfl | rfl | rfl | rfl | rfl | rfl | rfl | rfl | rfl
        · exact hi3 _ rfl { on := 0, ground := Ground.phase } (by simp) rfl
        · exact hi3 _ rfl { on := 1, ground := Ground.phase } (by simp) rfl
        · exact hi3 _ rfl { on := 2, ground := Ground.phase } (by simp) rfl
        · exact hi3 _ rfl { on := 3, ground := Ground.phase } (by simp) rfl
        · exact hi3 _ rfl { on := 4, ground := Ground.phase } (by simp) rfl
        · exact hi3 _ rfl { on := 5, ground := Ground.phase } (by simp) rfl
        · exact hi3 _ rfl { on := 6, ground := Ground.phase } (by simp) rfl
        · exact hi3 _ rfl { on := 7, ground := Ground.data } (by simp) rfl
        · exact hi3 _ rfl { on := 8, ground := Ground.data } (by simp) rfl
      have HALL := hide hall
      have f1 := HC0.out
      have f2 := HF0.out
      clear hi hi1 hi2 hi3 hi4 T nN hall
      refine wpOp_step (o := { dst := none, op := Op.store 3 (Operand.tmp 41) (Operand.tmp 40), type := 0, pos := "ref.go:251", after := #[{ on := 8, ground := Ground.data }, { on := 7, ground := Ground.data }, { on := 0, ground := Ground.phase }, { on := 1, ground := Ground.phase }, { on := 2, ground := Ground.phase }, { on := 3, ground := Ground.phase }, { on := 4, ground := Ground.phase }, { on := 5, ground := Ground.phase }, { on := 6, ground := Ground.phase }, { on := 7, ground := Ground.phase }], guard := none }) rfl (fun K hK => ?_)
      go_simp
      exact hK _ _ ⟨_, _, _, _, _, _, _, _, _, rfl, by have h := HT.out.set 9 (by decide); rw [Hex.out] at h ⊢; exact h, (fun h => by rw [set_same (by rw [HT.out.sz]; decide)] at h; cases h), fun _ => ⟨fun i hi => by rw [set_other (by omega)]; exact HALL.out i hi, rfl⟩⟩
  · rintro l x W ⟨v0, v1, v2, v3, v4, v5, v6, v7, v8, rfl, T, hb, hf⟩ hnil
    have hd := ready_done (by kernel_rfl) T.sz hnil
    obtain ⟨hall, rfl⟩ := hf (hd 9 (by decide))
    obtain rfl : v0 = Value.pointer (some { block := g, off := 1 }) := by have h := T.val 0 (by rw [Hex.out]; simp) (hall 0 (by decide)); rw [Hex.out] at h; exact h
    obtain rfl : v1 = Value.int IntKind.i64 xq := by have h := T.val 1 (by rw [Hex.out]; simp) (hall 1 (by decide)); rw [Hex.out] at h; exact h
    obtain rfl : v2 = Value.slice (some ad) n2 c2 := by have h := T.val 2 (by rw [Hex.out]; simp) (hall 2 (by decide)); rw [Hex.out] at h; exact h
    obtain rfl : v3 = Value.int IntKind.i64 ↑k := by have h := T.val 3 (by rw [Hex.out]; simp) (hall 3 (by decide)); rw [Hex.out] at h; exact h
    obtain rfl : v4 = Value.pointer (some (ad.add (k * 4))) := by have h := T.val 4 (by rw [Hex.out]; simp) (hall 4 (by decide)); rw [Hex.out] at h; exact h
    obtain rfl : v5 = Value.pointer (some { block := (ad.add (k * 4)).block, off := (ad.add (k * 4)).off + 3 }) := by have h := T.val 5 (by rw [Hex.out]; simp) (hall 5 (by decide)); rw [Hex.out] at h; exact h
    obtain rfl : v6 = Value.int IntKind.i64 eq := by have h := T.val 6 (by rw [Hex.out]; simp) (hall 6 (by decide)); rw [Hex.out] at h; exact h
    obtain rfl : v7 = Value.int IntKind.i64 z := by have h := T.val 7 (by rw [Hex.out]; simp) (hall 7 (by decide)); rw [Hex.out] at h; exact h
    obtain rfl : v8 = Value.pointer (some { block := g, off := 1 }) := by have h := T.val 8 (by rw [Hex.out]; simp) (hall 8 (by decide)); rw [Hex.out] at h; exact h
    rw [← Hw0.out]
    exact HQ.out
end Go.Proofs.Ytmhdhedjeaaciaa
