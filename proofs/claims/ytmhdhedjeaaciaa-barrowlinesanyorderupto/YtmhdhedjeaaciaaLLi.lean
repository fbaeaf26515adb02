/- Lines: its contract. -/
import Derived.Test.YtmhdhedjeaaciaaLKe
import Derived.Test.YtmhdhedjeaaciaaLWi
import Derived.Test.YtmhdhedjeaaciaaLRg
import Derived.Maps.OwnOps
import Derived.StringKeys
namespace Go.Proofs.Ytmhdhedjeaaciaa
open Go.RowKit Go.Maps Go.Sort
attribute [local go_sem ↓] ld28_eq st28_eq
attribute [local go_sem] zero_EC cells_EV EC_size LC_size

theorem law9 : Keyed Try.prog 9 := string_keyed Try.underlying9
theorem zeroL (w : World) : (zeroValue 29).run Try.prog w = .ok (LV ln0) w := Try.zeroValue29 w
/-- the map at the block b behind these entries -/
def MapI (w : World) (b k : Nat) (L : List En) : Prop := ∃ D, w.ownsMap Try.prog 9 RL b k D ∧ Mp D L
/-- lines and an error are handed back -/
def GivesL (w w' : World) (e : Ending) (L : List En) : Prop := ∃ ao n c R er, e = .returned (.tuple #[.slice ao n c, .int .i64 er]) ∧ LSrc w' ao n c R ∧ Below w.heap.size w w' ∧ (∀ ad, ao = some ad → w.heap.size ≤ ad.block ∧ ad = ⟨ad.block, 0, none⟩) ∧ LinesOf L R er
theorem chk_01 (L : List En) : chk L = 0 ∨ chk L = 1 := by unfold chk; split <;> simp
theorem owns_below {w w' : World} {b k n : Nat} {D : DataW Ln} (h : w.ownsMap Try.prog 9 RL b k D) (hb : Below n w w') (hn : b < n) : w'.ownsMap Try.prog 9 RL b k D := by
  obtain ⟨es, c, h1, h2⟩ := h
  exact ⟨es, c, (hb.block b hn).trans h1, h2⟩
/-- behind the store -/
structure RegI (wk W : World) (b k : Nat) (D : DataW Ln) (e : En) (l0 : Ln) : Prop where
  own : W.ownsMap Try.prog 9 RL b (k + 1) (D.put (.string e.sku.data.toList) (.held (addL l0 e)))
  way : ∃ Wb, Below wk.heap.size wk Wb ∧ Wb.grownBy W (some b)
theorem RegI.back {w1 wk W : World} {k : Nat} {D : DataW Ln} {e : En} {l0 : Ln} (h : RegI wk W w1.heap.size k D e l0) (hb : Below w1.heap.size w1 wk) : Below w1.heap.size w1 W := by
  obtain ⟨Wb, b1, g1⟩ := h.way
  have h2 := hb.trans (b1.mono hb.size)
  exact h2.grown g1 h2.size (fun j hj => by cases hj; exact Nat.le_refl _)
theorem look_line {w : World} {b k : Nat} {D : DataW Ln} {L : List En} (h : w.ownsMap Try.prog 9 RL b k D) (hm : Mp D L) (s : ByteArray) (hs : s.size ≤ maxLen) : (Instr.lookup 56 (.map (some b)) (.string s) false).run Try.prog w = .ok (LV (lineOf L s)) w := by
  obtain ⟨v, ps, hr, hv⟩ := h.lookup law9 Try.underlying56 (zeroL w) (RL_line ln0) (Go.WideMaps.keyOf_string_mk Try.underlying9 hs)
  rw [hm.2 s] at hv
  rw [hr, RL_inv hv]
theorem put_line {wk W : World} {b k : Nat} {D : DataW Ln} {e : En} {l0 : Ln} (h : W.ownsMap Try.prog 9 RL b k D) (hk : k < maxLen) (hs : e.sku.size ≤ maxLen) (hb : Below wk.heap.size wk W) :
    ∃ W', (Instr.mapUpdate 56 (.map (some b)) (.string e.sku) (LV (addL l0 e))).run Try.prog W = .ok () W' ∧ RegI wk W' b k D e l0 := by
  obtain ⟨W', hr, ho, hg⟩ := h.update law9 Try.underlying56 hk (Go.WideMaps.keyOf_string_mk Try.underlying9 hs) (RL_line (addL l0 e))
  exact ⟨W', hr, ho, W, hb, hg⟩
/-- a row of texts -/
def TSrc (w : World) (ao : Option Addr) (m : Nat) (T : List (List UInt8)) : Prop :=
  T.length = m ∧ ∀ t, t < m → ∃ ad, ao = some ad ∧ w.cell? (ad.add t) = some (encStr (T.getD t []))
theorem TSrc.below {w w' : World} {ao : Option Addr} {m : Nat} {T : List (List UInt8)} (h : TSrc w ao m T) (hb : Below w.heap.size w w') : TSrc w' ao m T := by
  refine ⟨h.1, fun t ht => ?_⟩
  obtain ⟨ad, e, hc⟩ := h.2 t ht
  exact ⟨ad, e, (hb.cell (World.block_lt_of_cell? _ _ hc)).trans hc⟩
theorem GivesK.src {w w' : World} {e : Ending} {T : List (List UInt8)} (h : GivesK w w' e T) : ∃ ao c, e = .returned (.slice ao T.length c) ∧ TSrc w' ao T.length T ∧ Below w.heap.size w w' := by
  obtain ⟨v, rfl, hr, hb⟩ := h
  rcases hr.2 with ⟨h0, h00⟩ | ⟨g, cap, cur, hv, hbg, hgg, hnc, hcm, hcsz, htake⟩
  · refine ⟨none, 0, by rw [h0, h00], ⟨rfl, fun t ht => ?_⟩, hb⟩
    omega
  · subst hv
    refine ⟨some ⟨g, 0, none⟩, cap, rfl, ⟨rfl, fun t ht => ⟨_, rfl, ?_⟩⟩, hb⟩
    rw [Addr.add_lit, Nat.zero_add, hr.cellAt t (by omega)]
    simp [List.getD, ht]
theorem OwnL.form {B0 B : Nat} {w w' : World} {ao : Option Addr} {cap : Nat} {acc : List Ln} (O : OwnL B0 B w w' ao cap acc) (ad : Addr) (h : ao = some ad) : ad = ⟨ad.block, 0, none⟩ := by
  subst h
  rcases O.own.2 with ⟨h, _⟩ | ⟨g, cap2, cur, hv, _⟩
  · cases h
  · simp only [Value.slice.injEq, Option.some.injEq] at hv
    rw [hv.1]
theorem take_snocL (L : List Ln) (k : Nat) (h : k < L.length) : L.take (k + 1) = L.take k ++ [L.getD k ln0] := by
  rw [List.take_succ_eq_append_getElem h]; simp [List.getD, h]
set_option maxRecDepth 100000 in
set_option maxHeartbeats 8000000 in
theorem lines_any (ao : Option Addr) (n cap : Nat) (L : List En) (w : World) (hS : ESrc w ao n cap L) :
    Calls Try.prog 12 #[.slice ao n cap] w fun e w' => GivesL w w' e L := by
  have HS := hide hS
  have HL : Hid (L.length = n) := hS.1
  have hn := hS.2.2.2.2
  clear hS
  have hmm := @run_makeMap Try.prog
  go_enter Try.func12, Try.ntmps12
  go_wp2_with fail
  refine (lcheck_any ao n cap L _ HS.out).mono ?_
  rintro x w1 ⟨rfl, b1⟩
  have B1 := hide b1
  have S1 := hide (HS.out.below b1)
  clear b1
  rcases chk_01 L with h | h
  · rw [h]
    have HC := hide h
    have HA := hide (chk_all h)
    have hlen := chk_len h
    rw [HL.out] at hlen
    clear h
    go_wp2_with fail
    go_loopw [19] (fun i wr => ∃ k : Nat, k ≤ n ∧ i = .int .i64 k ∧ Hid (MapI wr w1.heap.size k (L.take k)) ∧ Hid (Below w1.heap.size w1 wr)) (fun i _ => n - (intOf i).toNat)
    case atStart => exact ⟨0, Nat.zero_le _, rfl, ⟨_, World.ownsMap_made _ _ _ _, mp_start⟩, below_new _ _⟩
    case round =>
      obtain ⟨k, hk, rfl, HM, HB⟩ := hrel
      by_cases hlt : k < n
      · obtain ⟨ad, rfl, A0⟩ := (S1.out.below HB.out).at k hlt
        have hld := run_ld28 A0
        have HT1 := hide (take_snoc L k (by rw [HL.out]; exact hlt))
        have hsk := HS.out.sku k hlt
        have hqe := HA.out (L.getD k en0) (by rw [show L.getD k en0 = L[k]'(by rw [HL.out]; exact hlt) by simp [List.getD, HL.out, hlt]]; exact List.getElem_mem _)
        obtain ⟨e, He⟩ : ∃ e, Hid (L.getD k en0 = e) := ⟨_, rfl⟩
        rw [He.out] at hld A0 HT1 hsk hqe
        obtain ⟨wk, hst, X1, B1', Z1⟩ := made wr e wr.heap.size rfl
        have HX := hide X1
        have HBK := hide (HB.out.trans (B1'.mono HB.out.size))
        obtain ⟨D, hown, hmp⟩ := HM.out
        obtain ⟨l0, Hl0⟩ : ∃ l0, Hid (lineOf (L.take k) e.sku = l0) := ⟨_, rfl⟩
        have hok : AllOk (L.take k) := fun x hx => HA.out x (List.mem_of_mem_take hx)
        have hbd := line_bd (L.take k) hok e.sku
        have htl : (L.take k).length = k := by rw [List.length_take, HL.out]; omega
        rw [Hl0.out, htl] at hbd
        have HQ : Hid ((0 ≤ l0.qty ∧ l0.qty ≤ 16000000000000000) ∧ (0 ≤ l0.parts ∧ l0.parts ≤ 16000000000) ∧ (1 ≤ e.qty ∧ e.qty ≤ 1000000)) := ⟨by omega, by omega, hqe⟩
        have hownk := owns_below hown B1' hown.lt
        have HLK : Hid (∀ W, Below wk.heap.size wk W → (Instr.lookup 56 (.map (some w1.heap.size)) (.string e.sku) false).run Try.prog W = .ok (LV l0) W) := fun W hW => by
          have := look_line (owns_below hownk hW hownk.lt) hmp e.sku hsk
          rwa [Hl0.out] at this
        have HUP : Hid (∀ W, Below wk.heap.size wk W → ∃ W', (Instr.mapUpdate 56 (.map (some w1.heap.size)) (.string e.sku) (LV (addL l0 e))).run Try.prog W = .ok () W' ∧ RegI wk W' w1.heap.size k D e l0) := fun W hW =>
          put_line (owns_below hownk hW hownk.lt) (by unfold maxLen; omega) hsk hW
        have HMP : Hid (Mp (D.put (.string e.sku.data.toList) (.held (addL l0 e))) (L.take k ++ [e])) := by have := mp_step hmp hown.isMap e; rw [Hl0.out] at this; exact this
        clear X1 B1' A0 Z1 hown hmp hok hbd htl hsk hqe hownk
        go_wp2_with fail
        clear hst hld
        obtain ⟨ex, Hex⟩ : ∃ ex, Hid (ex = [Value.map (some w1.heap.size), .pointer (some ⟨wr.heap.size, 2, none⟩), .string e.sku, .map (some w1.heap.size), .pointer (some ⟨wr.heap.size, 2, none⟩), .string e.sku, LV l0, EV e, LV (addL l0 e)]) := ⟨_, rfl⟩
        refine wp_region_inv (by kernel_rfl) (fun l x W => ∃ v0 v1 v2 v3 v4 v5 v6 v7 v8, x = { tmps := #[Value.slice (some ad) n cap, undef, Value.slice none 0 0, Value.int IntKind.i64 0, Value.int IntKind.i64 0, Value.map (some w1.heap.size), undef, Value.pointer (some { block := wr.heap.size, off := 0 }), undef, undef, undef, Value.slice (some ad) n cap, Value.int IntKind.i64 0, Value.int IntKind.i64 0, Value.bool false, undef, Value.map (some w1.heap.size), Value.slice (some ad) n cap, Value.int IntKind.i64 ↑n, Value.int IntKind.i64 ↑k, Value.bool true, Value.pointer (some (ad.add (k * 4))), EV e, v0, v1, v2, v3, v4, v5, v6, v7, v8, u32, undef, undef, undef, undef, undef, undef, undef, undef, undef, undef, undef, undef, undef, undef, undef, undef], defers := [] } ∧ VI 10 ex l [v0, v1, v2, v3, v4, v5, v6, v7, v8] ∧ (l.getD 9 false = false → Below wk.heap.size wk W) ∧ (l.getD 9 false = true → (∀ i, i < 9 → l.getD i false = true) ∧ RegI wk W w1.heap.size k D e l0)) ?_ ?_ ?_ ?_
        · exact ⟨u23, u24, u25, u26, u27, u28, u29, u30, u31, rfl, VI.start 10 ex _ (by rw [Hex.out]; rfl), fun _ => ⟨rfl, rfl, rfl, Nat.le_refl _, fun _ _ => rfl⟩, (fun h => by rw [rep_false] at h; cases h)⟩
        · rintro l x W ⟨v0, v1, v2, v3, v4, v5, v6, v7, v8, rfl, T, _, _⟩
          exact T.sz
        · rintro l x W ⟨v0, v1, v2, v3, v4, v5, v6, v7, v8, rfl, T, hb, hf⟩ i hi
          obtain ⟨hi1, hi2, hi3⟩ := ready_mem hi
          have hi4 := no_true hi2
          have n9 : l.getD 9 false = false := by
            cases h9 : l.getD 9 false with
            | false => rfl
            | true =>
              by_cases h : i = 9
              · subst h; rw [hi4] at h9; cases h9
              · have := (hf h9).1 i (by have h' : i < 10 := hi1; omega); rw [hi4] at this; cases this
          have HBW := hide (hb n9)
          have HT := hide T
          have HN9 := hide n9
          clear hb hf
          have hc : i = 0 ∨ i = 1 ∨ i = 2 ∨ i = 3 ∨ i = 4 ∨ i = 5 ∨ i = 6 ∨ i = 7 ∨ i = 8 ∨ i = 9 := by have h : i < 10 := hi1; omega
          rcases hc with rfl | rfl | rfl | rfl | rfl | rfl | rfl | rfl | rfl | rfl
          · clear hi hi1 hi2 hi3 hi4 T n9
            refine wpOp_step (o := { dst := some 23, op := Op.move (Operand.tmp 5), type := 56, pos := "lines.go:18", after := #[], guard := none }) rfl (fun K hK => ?_)
            go_simp
            exact hK _ _ ⟨Value.map (some w1.heap.size), _, _, _, _, _, _, _, _, rfl, by have h := HT.out.set 0 (by decide); rw [Hex.out] at h ⊢; exact h, fun _ => HBW.out, (fun h => by rw [set_other (by decide), HN9.out] at h; cases h)⟩
          · clear hi hi1 hi2 hi3 hi4 T n9
            refine wpOp_step (o := { dst := some 24, op := Op.fieldAddr 40 (Operand.tmp 7) 1, type := 0, pos := "lines.go:18", after := #[], guard := none }) rfl (fun K hK => ?_)
            go_simp
            exact hK _ _ ⟨_, Value.pointer (some ⟨wr.heap.size, 2, none⟩), _, _, _, _, _, _, _, rfl, by have h := HT.out.set 1 (by decide); rw [Hex.out] at h ⊢; exact h, fun _ => HBW.out, (fun h => by rw [set_other (by decide), HN9.out] at h; cases h)⟩
          · have d1 := hi3 _ rfl { on := 1, ground := Ground.data } (by simp) rfl
            have e1 : v1 = Value.pointer (some ⟨wr.heap.size, 2, none⟩) := by have h := HT.out.val 1 (by rw [Hex.out]; simp) d1; rw [Hex.out] at h; exact h
            subst e1
            have c1 : W.cell? ⟨wr.heap.size, 2, none⟩ = some (.string e.sku) := by have h := (HX.out.below HBW.out).at.c2; simpa [Addr.add] using h
            clear hi hi1 hi2 hi3 hi4 T n9
            refine wpOp_step (o := { dst := some 25, op := Op.load 9 (Operand.tmp 24), type := 9, pos := "lines.go:18", after := #[{ on := 1, ground := Ground.data }], guard := none }) rfl (fun K hK => ?_)
            go_simp
            exact hK _ _ ⟨_, _, Value.string e.sku, _, _, _, _, _, _, rfl, by have h := HT.out.set 2 (by decide); rw [Hex.out] at h ⊢; exact h, fun _ => HBW.out, (fun h => by rw [set_other (by decide), HN9.out] at h; cases h)⟩
          · clear hi hi1 hi2 hi3 hi4 T n9
            refine wpOp_step (o := { dst := some 26, op := Op.move (Operand.tmp 5), type := 56, pos := "lines.go:18", after := #[], guard := none }) rfl (fun K hK => ?_)
            go_simp
            exact hK _ _ ⟨_, _, _, Value.map (some w1.heap.size), _, _, _, _, _, rfl, by have h := HT.out.set 3 (by decide); rw [Hex.out] at h ⊢; exact h, fun _ => HBW.out, (fun h => by rw [set_other (by decide), HN9.out] at h; cases h)⟩
          · clear hi hi1 hi2 hi3 hi4 T n9
            refine wpOp_step (o := { dst := some 27, op := Op.fieldAddr 40 (Operand.tmp 7) 1, type := 0, pos := "lines.go:18", after := #[], guard := none }) rfl (fun K hK => ?_)
            go_simp
            exact hK _ _ ⟨_, _, _, _, Value.pointer (some ⟨wr.heap.size, 2, none⟩), _, _, _, _, rfl, by have h := HT.out.set 4 (by decide); rw [Hex.out] at h ⊢; exact h, fun _ => HBW.out, (fun h => by rw [set_other (by decide), HN9.out] at h; cases h)⟩
          · have d4 := hi3 _ rfl { on := 4, ground := Ground.data } (by simp) rfl
            have e4 : v4 = Value.pointer (some ⟨wr.heap.size, 2, none⟩) := by have h := HT.out.val 4 (by rw [Hex.out]; simp) d4; rw [Hex.out] at h; exact h
            subst e4
            have c1 : W.cell? ⟨wr.heap.size, 2, none⟩ = some (.string e.sku) := by have h := (HX.out.below HBW.out).at.c2; simpa [Addr.add] using h
            clear hi hi1 hi2 hi3 hi4 T n9
            refine wpOp_step (o := { dst := some 28, op := Op.load 9 (Operand.tmp 27), type := 9, pos := "lines.go:18", after := #[{ on := 4, ground := Ground.data }], guard := none }) rfl (fun K hK => ?_)
            go_simp
            exact hK _ _ ⟨_, _, _, _, _, Value.string e.sku, _, _, _, rfl, by have h := HT.out.set 5 (by decide); rw [Hex.out] at h ⊢; exact h, fun _ => HBW.out, (fun h => by rw [set_other (by decide), HN9.out] at h; cases h)⟩
          · have d3 := hi3 _ rfl { on := 3, ground := Ground.data } (by simp) rfl
            have e3 : v3 = Value.map (some w1.heap.size) := by have h := HT.out.val 3 (by rw [Hex.out]; simp) d3; rw [Hex.out] at h; exact h
            subst e3
            have d5 := hi3 _ rfl { on := 5, ground := Ground.data } (by simp) rfl
            have e5 : v5 = Value.string e.sku := by have h := HT.out.val 5 (by rw [Hex.out]; simp) d5; rw [Hex.out] at h; exact h
            subst e5
            have hlk := HLK.out W HBW.out
            clear hi hi1 hi2 hi3 hi4 T n9
            refine wpOp_step (o := { dst := some 29, op := Op.lookup 56 (Operand.tmp 26) (Operand.tmp 28) false, type := 29, pos := "lines.go:18", after := #[{ on := 3, ground := Ground.data }, { on := 5, ground := Ground.data }], guard := none }) rfl (fun K hK => ?_)
            go_simp
            exact hK _ _ ⟨_, _, _, _, _, _, LV l0, _, _, rfl, by have h := HT.out.set 6 (by decide); rw [Hex.out] at h ⊢; exact h, fun _ => HBW.out, (fun h => by rw [set_other (by decide), HN9.out] at h; cases h)⟩
          · have hl := run_ld28 (HX.out.below HBW.out).at
            clear hi hi1 hi2 hi3 hi4 T n9
            refine wpOp_step (o := { dst := some 30, op := Op.load 40 (Operand.tmp 7), type := 40, pos := "lines.go:18", after := #[], guard := none }) rfl (fun K hK => ?_)
            go_simp
            exact hK _ _ ⟨_, _, _, _, _, _, _, EV e, _, rfl, by have h := HT.out.set 7 (by decide); rw [Hex.out] at h ⊢; exact h, fun _ => HBW.out, (fun h => by rw [set_other (by decide), HN9.out] at h; cases h)⟩
          · have d6 := hi3 _ rfl { on := 6, ground := Ground.data } (by simp) rfl
            have e6 : v6 = LV l0 := by have h := HT.out.val 6 (by rw [Hex.out]; simp) d6; rw [Hex.out] at h; exact h
            subst e6
            have d7 := hi3 _ rfl { on := 7, ground := Ground.data } (by simp) rfl
            have e7 : v7 = EV e := by have h := HT.out.val 7 (by rw [Hex.out]; simp) d7; rw [Hex.out] at h; exact h
            subst e7
            clear hi hi1 hi2 hi3 hi4 T n9
            refine wpOp_step (o := { dst := some 31, op := Op.call { callee := Callee.value (Operand.func 31), args := #[Operand.tmp 29, Operand.tmp 30], argTypes := #[29, 40] }, type := 29, pos := "lines.go:18", after := #[{ on := 6, ground := Ground.data }, { on := 7, ground := Ground.data }], guard := none }) rfl (fun K hK => ?_)
            go_simp
            go_wp2_with fail
            refine (with_any l0 e _ HQ.out.1 HQ.out.2.1 HQ.out.2.2).mono ?_
            rintro y w' ⟨rfl, b'⟩
            exact hK _ _ ⟨_, _, _, _, _, _, _, _, LV (addL l0 e), rfl, by have h := HT.out.set 8 (by decide); rw [Hex.out] at h ⊢; exact h, fun _ => HBW.out.trans (b'.mono HBW.out.size), (fun h => by rw [set_other (by decide), HN9.out] at h; cases h)⟩
          · have d0 := hi3 _ rfl { on := 0, ground := Ground.data } (by simp) rfl
            have e0 : v0 = Value.map (some w1.heap.size) := by have h := HT.out.val 0 (by rw [Hex.out]; simp) d0; rw [Hex.out] at h; exact h
            subst e0
            have d2 := hi3 _ rfl { on := 2, ground := Ground.data } (by simp) rfl
            have e2 : v2 = Value.string e.sku := by have h := HT.out.val 2 (by rw [Hex.out]; simp) d2; rw [Hex.out] at h; exact h
            subst e2
            have d8 := hi3 _ rfl { on := 8, ground := Ground.data } (by simp) rfl
            have e8 : v8 = LV (addL l0 e) := by have h := HT.out.val 8 (by rw [Hex.out]; simp) d8; rw [Hex.out] at h; exact h
            subst e8
            have hall : ∀ i, i < 9 → l.getD i false = true := fun i h => by
              have hc : i = 0 ∨ i = 1 ∨ i = 2 ∨ i = 3 ∨ i = 4 ∨ i = 5 ∨ i = 6 ∨ i = 7 ∨ i = 8 := by omega
              rcases hc with rfl | rfl | rfl | rfl | rfl | rfl | rfl | rfl | rfl
              · exact hi3 _ rfl { on := 0, ground := Ground.phase } (by simp) rfl
              · exact hi3 _ rfl { on := 1, ground := Ground.phase } (by simp) rfl
              · exact hi3 _ rfl { on := 2, ground := Ground.phase } (by simp) rfl
              · exact hi3 _ rfl { on := 3, ground := Ground.phase } (by simp) rfl
              · exact hi3 _ rfl { on := 4, ground := Ground.phase } (by simp) rfl
              · exact hi3 _ rfl { on := 5, ground := Ground.phase } (by simp) rfl
              · exact hi3 _ rfl { on := 6, ground := Ground.phase } (by simp) rfl
              · exact hi3 _ rfl { on := 7, ground := Ground.phase } (by simp) rfl
              · exact hi3 _ rfl { on := 8, ground := Ground.phase } (by simp) rfl
            have HALL := hide hall
            obtain ⟨W', hup, hR⟩ := HUP.out W HBW.out
            have HR := hide hR
            clear hR hi hi1 hi2 hi3 hi4 T n9 hall d0 d2 d8
            refine wpOp_step (o := { dst := none, op := Op.mapUpdate 56 (Operand.tmp 23) (Operand.tmp 25) (Operand.tmp 31), type := 0, pos := "lines.go:18", after := #[{ on := 0, ground := Ground.data }, { on := 2, ground := Ground.data }, { on := 8, ground := Ground.data }, { on := 8, ground := Ground.chain }, { on := 0, ground := Ground.phase }, { on := 1, ground := Ground.phase }, { on := 2, ground := Ground.phase }, { on := 3, ground := Ground.phase }, { on := 4, ground := Ground.phase }, { on := 5, ground := Ground.phase }, { on := 6, ground := Ground.phase }, { on := 7, ground := Ground.phase }, { on := 8, ground := Ground.phase }], guard := none }) rfl (fun K hK => ?_)
            go_simp
            exact hK _ _ ⟨_, _, _, _, _, _, _, _, _, rfl, by have h := HT.out.set 9 (by decide); rw [Hex.out] at h ⊢; exact h, (fun h => by rw [set_same (by rw [HT.out.sz]; decide)] at h; cases h), fun _ => ⟨fun i hi => by rw [set_other (by omega)]; exact HALL.out i hi, HR.out⟩⟩
        · rintro l x W ⟨v0, v1, v2, v3, v4, v5, v6, v7, v8, rfl, T, hb, hf⟩ hnil
          have h9 := ready_done (by kernel_rfl) T.sz hnil 9 (by decide)
          obtain ⟨_, hR⟩ := hf h9
          have hM := hR.own
          have hBB := hR.back HBK.out
          have HM2 : Hid (MapI W w1.heap.size (k + 1) (L.take (k + 1))) := by show MapI _ _ _ _; rw [HT1.out]; exact ⟨_, hM, HMP.out⟩
          have HB2 : Hid (Below w1.heap.size w1 W) := hBB
          clear T hb hf hnil h9 hR hM hBB
          go_wp2_with fail
          go_roundw
          case rel => exact ⟨k + 1, by omega, by go_num, HM2, HB2⟩
          case measure => simp [intOf]; omega
      · obtain rfl : k = n := by omega
        have htk : L.take k = L := List.take_of_length_le (by rw [HL.out]; exact Nat.le_refl _)
        obtain ⟨D, hown, hmp⟩ := HM.out
        rw [htk] at hmp
        have HO := hide hown
        have HMP := hide hmp
        have hsz := hown.size_le
        have HZ : Hid (Maps.size D ≤ maxLen ∧ Maps.size D * 16 ≤ 140737488355328) := ⟨by unfold maxLen; omega, by omega⟩
        clear hown hmp hsz htk HM
        go_wp2_with fail
        refine (keys_any _ _).mono ?_
        rintro y w2 ⟨rfl, rfl⟩
        go_wp2_with fail
        refine (sortedKeys_any w1.heap.size k D RL wr HO.out HZ.out.1 HZ.out.2).mono ?_
        rintro y w3 ⟨ss, hp, hg⟩
        obtain ⟨a3, c3, rfl, T3, b3⟩ := hg.src
        have HLO := hide (lines_of_keys HO.out law9 Try.underlying9 HMP.out HC.out hp)
        have hTl : (ss.mergeSort leB).length ≤ k := by
          have e1 := ((List.mergeSort_perm ss leB).trans hp).length_eq
          have e2 : (strKeys D).length = Maps.size D := by
            obtain ⟨es, hD⟩ := HO.out.isMap
            subst hD
            simp [strKeys, Maps.size]
          have e3 := HO.out.size_le
          omega
        obtain ⟨T, HT⟩ : ∃ T, Hid (ss.mergeSort leB = T) := ⟨_, rfl⟩
        rw [HT.out] at T3 HLO hTl ⊢
        have HT3 := hide T3
        have HB3 : Hid (Below w1.heap.size w1 w3) := (HB.out.trans ((below_new wr _).mono HB.out.size)).trans (b3.mono (by simp; have := HB.out.size; omega))
        have HO3 : Hid (w3.ownsMap Try.prog 9 RL w1.heap.size k D) := owns_below (HO.out.alloc _) b3 (by simp; have := HO.out.lt; omega)
        obtain ⟨m, Hm⟩ : ∃ m, Hid (T.length = m) := ⟨_, rfl⟩
        rw [Hm.out] at hTl ⊢
        have HTL : Hid (∀ j, j < m → (T.getD j []).length ≤ maxLen) := fun j hj => by
          refine strKeys_le HO.out Try.underlying9 _ (((List.mergeSort_perm ss leB).trans hp).mem_iff.1 ?_)
          rw [HT.out, show T.getD j [] = T[j]'(by rw [Hm.out]; exact hj) by simp [List.getD, Hm.out, hj]]
          exact List.getElem_mem _
        clear T3 b3 hg hp
        obtain ⟨R, HR⟩ : ∃ R, Hid (T.map (fun x => lineOf L ⟨x.toArray⟩) = R) := ⟨_, rfl⟩
        rw [HR.out] at HLO
        have HRl : Hid (R.length = m) := by show _ = _; rw [← HR.out, List.length_map, Hm.out]
        go_wp2_with fail
        go_loopw [8, 37] (fun v i wr2 => ∃ (j : Nat) (ap : Option Addr) (c : Nat), j ≤ m ∧ v = .slice ap j c ∧ i = .int .i64 j ∧ Hid (OwnL w3.heap.size w3.heap.size w3 wr2 ap c (R.take j))) (fun _ i _ => m - (intOf i).toNat)
        case atStart => exact ⟨0, none, 0, Nat.zero_le _, rfl, rfl, OwnL.nil (Below.refl _ _) (Nat.le_refl _) (Nat.le_refl _)⟩
        case round =>
          obtain ⟨j, ap, c, hj, rfl, rfl, HOL⟩ := hrel
          obtain ⟨acc, Hacc⟩ : ∃ acc, Hid (R.take j = acc) := ⟨_, rfl⟩
          rw [Hacc.out] at HOL
          have hal : acc.length = j := by rw [← Hacc.out, List.length_take, HRl.out]; omega
          by_cases hjl : j < m
          · obtain ⟨ad3, rfl, hc3⟩ := (HT3.out.below HOL.out.below).2 j (by rw [Hm.out]; exact hjl)
            have hsl := HTL.out j hjl
            obtain ⟨s, Hs⟩ : ∃ s : ByteArray, Hid (s = ⟨(T.getD j []).toArray⟩) := ⟨_, rfl⟩
            have hes : encStr (T.getD j []) = .string s := by rw [Hs.out]
            rw [hes] at hc3
            have hss : s.size ≤ maxLen := by rw [Hs.out]; simpa [ByteArray.size] using hsl
            have hlk := look_line (owns_below HO3.out HOL.out.below HO3.out.lt) HMP.out s hss
            obtain ⟨l, Hl⟩ : ∃ l, Hid (lineOf L s = l) := ⟨_, rfl⟩
            rw [Hl.out] at hlk
            have HN : Hid (R.take (j + 1) = acc ++ [l]) := by
              show _ = _
              rw [take_snocL R j (by rw [HRl.out]; exact hjl), Hacc.out, ← HR.out, ← Hl.out, Hs.out]
              simp [List.getD, Hm.out, hjl]
            have O2 := HOL.out
            clear hsl hes hss
            go_wp2_with (at_builtin; refine O2.append l _ rfl (by omega) rfl (.tmp 41) (.tmp 45) rfl j hal rfl rfl ?_; intro g4 c4 w4 O4 hk4)
            go_roundw
            case rel => exact ⟨j + 1, some ⟨g4, 0, none⟩, c4, by omega, by simp, by go_num, by rw [HN.out]; exact O4⟩
            case measure => simp [intOf]; omega
          · obtain rfl : j = m := by omega
            have HF : Hid (R = acc) := by show _ = _; rw [← Hacc.out, List.take_of_length_le (by rw [HRl.out]; exact Nat.le_refl _)]
            have hs : ∀ l ∈ acc, l.sku.size ≤ maxLen := fun l hl => by
              rw [← HF.out] at hl
              rcases HLO.out with ⟨h, _⟩ | ⟨_, _, _, hmem⟩
              · exact absurd HC.out h
              · obtain ⟨e, he, rfl⟩ := (hmem l).1 hl
                rw [line_sku L e he]
                exact HS.out.2.2.2.1 e he
            obtain ⟨S5, F5⟩ := HOL.out.src hs (by omega)
            rw [hal] at S5
            have HS5 := hide S5
            have HF5 := hide F5
            have HF6 := hide HOL.out.form
            clear S5 F5 hs
            have HW := hide ((B1.out.trans (HB3.out.mono B1.out.size)).trans (HOL.out.below.mono (Nat.le_trans B1.out.size HB3.out.size)))
            go_wp2_with fail
            go_ret2
            exact ⟨ap, j, c, acc, 0, rfl, HS5.out, HW.out, fun ad h => ⟨Nat.le_trans (Nat.le_trans B1.out.size HB3.out.size) (HF5.out ad h), HF6.out ad h⟩, by rw [← HF.out]; exact HLO.out⟩
  · rw [h]
    have HC : Hid (chk L ≠ 0) := by show chk L ≠ 0; rw [h]; decide
    clear h
    go_wp2_with fail
    go_ret2
    exact ⟨none, 0, 0, [], 1, rfl, LSrc.none _, B1.out, (fun ad h => by cases h), Or.inl ⟨HC.out, rfl, rfl⟩⟩
end Go.Proofs.Ytmhdhedjeaaciaa
