/- The law's put. -/
import Derived.Test.YtflinfmhmokfhaaUWx
import Derived.Test.YtflinfmhmokfhaaUGo
import Derived.Lib.ConvBytes
namespace Go.Proofs.Ytflinfmhmokfhaa
open Go.RowKit
variable {w w' w2 : World} {g q n : Nat}
attribute [local go_sem ↓] ldG_eq stG_eq ldQ_eq stQ_eq

/-- what one put comes to -/
def putB (k n : Int) (b : Bool) (s : ByteArray) : List Int :=
  if k = 1 then (if n < 0 then [] else numB n.toNat) else if k = 2 then [flagB b] else if k = 3 ∨ k = 4 then numB s.size ++ strB s else []
def putOK (k n : Int) : Bool := !decide (k = 1 ∧ n < 0)
theorem strB_at (s : ByteArray) (j : Nat) (hj : j < s.size) : (strB s).getD j 0 = ((s.data.toList.getD j 0).toNat : Int) := by
  have hl : j < s.data.toList.length := hj
  rw [strB, List.getD_eq_getElem?_getD, List.getElem?_map, List.getD_eq_getElem?_getD, List.getElem?_eq_getElem hl]
  rfl
theorem Wr.below {ao : Option Addr} {n cap : Nat} {Z : List Int} {sp : Bool} (W : Wr w g ao n cap Z sp) (hb : Below w.heap.size w w') : Wr w' g ao n cap Z sp :=
  ⟨(hb.block g W.lt).trans W.box, W.row.below hb, W.ne, W.nil⟩
theorem Kp.pre {ao bo : Option Addr} (hb : Below w.heap.size w w') (h : Kp w' w2 g ao bo) : Kp w w2 g ao bo :=
  ⟨h.os.trans hb.os, h.tape.trans hb.tape, h.output.trans hb.output, Nat.le_trans hb.size h.size, fun k hk h1 h2 => (h.block k (Nat.lt_of_lt_of_le hk hb.size) h1 h2).trans (hb.block k hk), by
    rcases h.lies with e | e | ⟨j, e, hj⟩
    · exact Or.inl e
    · exact Or.inr (Or.inl e)
    · exact Or.inr (Or.inr ⟨j, e, Nat.le_trans hb.size hj⟩)⟩
/-- what a step's put leaves -/
def PutW (w w' : World) (g : Nat) (ao : Option Addr) (Z : List Int) (k n : Int) (b : Bool) (s : ByteArray) (sp : Bool) : Prop :=
  ∃ bo m cc, Wr w' g bo m cc (if (sp || !putOK k n) = true then [] else Z ++ putB k n b s) (sp || !putOK k n) ∧ ((sp || !putOK k n) = true → bo = none) ∧ Kp w w' g ao bo
theorem Puts.to {ao : Option Addr} {Z Y : List Int} {sp : Bool} {k n : Int} {b : Bool} {s : ByteArray} (hb : Below w.heap.size w w') (h : Puts w' w2 g ao Z Y sp) (hk : putOK k n = true) (hY : putB k n b s = Y) : PutW w w2 g ao Z k n b s sp := by
  obtain ⟨bo, m, cc, W, hn, K⟩ := h
  unfold PutW
  rw [hk, hY]
  refine ⟨bo, m, cc, ?_, ?_, K.pre hb⟩
  · simpa using W
  · simpa using hn
set_option maxRecDepth 100000 in
theorem put_plain (ao : Option Addr) (m c : Nat) (Z : List Int) (sp : Bool) (z k n : Int) (b : Bool) (s : ByteArray) (w : World) (W : Wr w g ao m c Z sp) (hao : sp = true → ao = none) (hn : n ≤ 9223372036854775807) (hs : m + s.size ≤ 140737488355000) (h4 : ¬ k = 4) (hk0 : ¬ (k = 1 ∧ n < 0)) :
    Calls Try.prog 15 #[ptr g, QV ⟨z, k, n, b, s⟩] w fun r w' => r = .returned (.tuple #[]) ∧ PutW w w' g ao Z k n b s sp := by
  obtain ⟨w1, hw1⟩ : ∃ w1, w.alloc (.cells (QC ⟨z, k, n, b, s⟩) 42) = w1 := ⟨_, rfl⟩
  obtain ⟨q, hq⟩ : ∃ q, w.heap.size = q := ⟨_, rfl⟩
  have HQ : Hid (QBox w1 q ⟨z, k, n, b, s⟩ ∧ Below w.heap.size w w1) := by subst hw1 hq; exact ⟨QBox_new w _, below_new w _⟩
  have y1 := HQ.out.1.c1
  have y2 := HQ.out.1.c2
  have y3 := HQ.out.1.c3
  have y4 := HQ.out.1.c4
  simp only at y1 y2 y3 y4
  have HW := hide (W.below HQ.out.2)
  have HA := hide hao
  have HN := hide (And.intro hn hs)
  have HK0 := hide hk0
  clear W hao hn hs hk0
  by_cases h1 : k = 1
  · subst h1
    have h0 : ¬ n < 0 := fun h => HK0.out ⟨rfl, h⟩
    · obtain ⟨N, rfl⟩ : ∃ N : Nat, n = N := ⟨n.toNat, by omega⟩
      have HF : Hid (putOK 1 N = true ∧ putB 1 N b s = numB N) := ⟨by simp [putOK, h0], by simp [putB, h0]⟩
      go_enter Try.func15, Try.ntmps15
      go_wp2_with fail
      refine (wnum_any ao m c Z sp N w1 HW.out HA.out (by have := HN.out.1; omega) (by have := HN.out.2; omega)).mono ?_
      rintro r w2 ⟨rfl, P2⟩
      have HP := hide (P2.to HQ.out.2 HF.out.1 HF.out.2)
      clear P2 y1 y2 y3 y4
      go_wp2_with fail
      go_end0
      exact ⟨rfl, HP.out⟩
  · have HO : Hid (putOK k n = true) := by show _ = _; simp [putOK, h1]
    by_cases h2 : k = 2
    · subst h2
      have HF : Hid (putB 2 n b s = [flagB b]) := by show _ = _; simp [putB]
      go_enter Try.func15, Try.ntmps15
      go_wp2_with fail
      refine (wflag_any ao m c Z sp b w1 HW.out HA.out (by have := HN.out.2; omega)).mono ?_
      rintro r w2 ⟨rfl, P2⟩
      have HP := hide (P2.to HQ.out.2 HO.out HF.out)
      clear P2 y1 y2 y3 y4
      go_wp2_with fail
      go_end0
      exact ⟨rfl, HP.out⟩
    · by_cases h3 : k = 3
      · subst h3
        have HF : Hid (putB 3 n b s = numB s.size ++ strB s) := by show _ = _; simp [putB]
        go_enter Try.func15, Try.ntmps15
        go_wp2_with fail
        refine (wtext_any ao m c Z sp s w1 HW.out HA.out HN.out.2).mono ?_
        rintro r w2 ⟨rfl, P2⟩
        have HP := hide (P2.to HQ.out.2 HO.out HF.out)
        clear P2 y1 y2 y3 y4
        go_wp2_with fail
        go_end0
        exact ⟨rfl, HP.out⟩
      · have HF : Hid (putB k n b s = []) := by show _ = _; simp [putB, h1, h2, h3, h4]
        have HP : Hid (PutW w w1 g ao Z k n b s sp) := by
          refine ⟨ao, m, c, ?_, ?_, ⟨HQ.out.2.os, HQ.out.2.tape, HQ.out.2.output, HQ.out.2.size, fun k hk _ _ => HQ.out.2.block k hk, Or.inr (Or.inl rfl)⟩⟩
          · rw [HO.out, HF.out]
            have := HW.out
            cases sp with
            | true => have e := this.nil rfl; subst e; simpa using this
            | false => simpa using this
          · rw [HO.out]; simpa using HA.out
        clear HF
        go_enter Try.func15, Try.ntmps15
        go_wp2_with fail
        go_end0
        exact ⟨rfl, HP.out⟩
/-- bytes that may be written over -/
def Scr (w : World) (q n : Nat) : Prop := ∀ t, t < n → (∃ y, w.cell? ⟨q, t, none⟩ = some (.int .u8 y)) ∧ w.frozen? ⟨q, t, none⟩ = false
theorem Scr.set (h : Scr w q n) (k : Nat) (y : Int) : Scr (w.setCell ⟨q, k, none⟩ (.int .u8 y)) q n := fun t ht => by
  refine ⟨?_, by rw [World.frozen?_setCell]; exact (h t ht).2⟩
  obtain ⟨u, hu⟩ := (h t ht).1
  by_cases e : k = t
  · subst e; exact ⟨_, World.cell?_setCell_same _ _ _ hu⟩
  · exact ⟨u, (World.cell?_setCell_other _ _ _ _ (by intro x; cases x; exact e rfl)).trans hu⟩
theorem Scr.of_block (h : Scr w q n) (e : w'.heap[q]? = w.heap[q]?) : Scr w' q n := fun t ht => ⟨by rw [World.cell?_of_block (w := w) (w' := w') (a := ⟨q, t, none⟩) e]; exact (h t ht).1, by rw [World.frozen?_of_block (w := w) (w' := w') (a := ⟨q, t, none⟩) e]; exact (h t ht).2⟩
theorem conv_scr (w : World) (s : ByteArray) : ∃ (w' : World) (c : Nat), (convert 9 22 (.string s)).run Try.prog w = .ok (.slice (some ⟨w.heap.size, 0, none⟩) s.size c) w' ∧ BS w' (some ⟨w.heap.size, 0, none⟩) s.size c (strB s) ∧ Below w.heap.size w w' ∧ w'.heap.size = w.heap.size + 1 ∧ Scr w' w.heap.size s.size := by
  refine ⟨Lib.bytesWorld w 5 s, _, Lib.run_convert_string_bytes w 9 22 5 s Try.underlying9 Try.underlying22 Try.underlying5, ⟨strB_length s, (fun h => by cases h), fun ad ha t ht => ?_⟩, ⟨rfl, rfl, rfl, by rw [Lib.bytesWorld_size]; omega, fun k hk => Lib.bytesWorld_at_old w _ s k hk⟩, Lib.bytesWorld_size w _ s, fun t ht => ⟨⟨_, Lib.bytesWorld_cell w _ s t ht⟩, ?_⟩⟩
  · obtain rfl := Option.some.inj ha
    rw [Addr.add_lit, Nat.zero_add, Lib.bytesWorld_cell w _ s t ht, strB_at s t ht]
  · have hz : s.size ≤ (Lib.bytesCells w 5 s).size := by
      unfold Lib.bytesCells
      rw [Array.size_append, Array.size_map]
      exact Nat.le_add_right _ _
    unfold World.frozen?
    rw [Lib.bytesWorld_at_new]
    have : ¬ (Lib.bytesCells w 5 s).size ≤ t := by omega
    simp [this]
theorem Wr.far {ao : Option Addr} {m c : Nat} {Z : List Int} {sp : Bool} (W : Wr w g ao m c Z sp) (h1 : g ≠ q) (h2 : blk ao ≠ some q) (k : Nat) (v : Value) : Wr (w.setCell ⟨q, k, none⟩ v) g ao m c Z sp :=
  ⟨(set_other w q k g v h1).trans W.box, W.row.keep fun j hj => set_other w q k j v (fun e => h2 (by rw [hj, e])), W.ne, W.nil⟩
theorem Kp.far {ao bo : Option Addr} (h : Kp w w' g ao bo) (hq : w.heap.size ≤ q) (k : Nat) (v : Value) : Kp w (w'.setCell ⟨q, k, none⟩ v) g ao bo :=
  ⟨h.os, h.tape, h.output, by rw [set_size]; exact h.size, fun j hj h1 h2 => (set_other w' q k j v (by omega)).trans (h.block j hj h1 h2), h.lies⟩
set_option maxRecDepth 100000 in
theorem put_frame (ao : Option Addr) (m c : Nat) (Z : List Int) (sp : Bool) (z n : Int) (b : Bool) (s : ByteArray) (w : World) (W : Wr w g ao m c Z sp) (hao : sp = true → ao = none) (hs : m + s.size ≤ 140737488355000) :
    Calls Try.prog 15 #[ptr g, QV ⟨z, 4, n, b, s⟩] w fun r w' => r = .returned (.tuple #[]) ∧ PutW w w' g ao Z 4 n b s sp := by
  obtain ⟨w1, hw1⟩ : ∃ w1, w.alloc (.cells (QC ⟨z, 4, n, b, s⟩) 42) = w1 := ⟨_, rfl⟩
  obtain ⟨q, hq⟩ : ∃ q, w.heap.size = q := ⟨_, rfl⟩
  have HQ : Hid (QBox w1 q ⟨z, 4, n, b, s⟩ ∧ Below w.heap.size w w1) := by subst hw1 hq; exact ⟨QBox_new w _, below_new w _⟩
  have y1 := HQ.out.1.c1
  have y4 := HQ.out.1.c4
  simp only at y1 y4
  obtain ⟨w2, c2, hcv, S2, b2, z2, X2⟩ := conv_scr w1 s
  obtain ⟨q2, hq2⟩ : ∃ q2, w1.heap.size = q2 := ⟨_, rfl⟩
  rw [hq2] at hcv S2 X2
  have HB2 := hide (HQ.out.2.trans (b2.mono HQ.out.2.size))
  have HW := hide (W.below HB2.out)
  have HS := hide S2
  have HX := hide X2
  have HA := hide hao
  have HN := hide hs
  have HG : Hid (g < q2 ∧ w.heap.size ≤ q2 ∧ q2 < w2.heap.size ∧ ∀ k, blk ao = some k → k < q2) := by
    have h1 := HQ.out.2.size
    refine ⟨Nat.lt_of_lt_of_le W.lt (by omega), by omega, by omega, fun k hk => Nat.lt_of_lt_of_le (W.row.lt k hk) (by omega)⟩
  have HF : Hid (putOK 4 n = true ∧ putB 4 n b s = numB s.size ++ strB s) := ⟨by simp [putOK], by simp [putB]⟩
  clear W hao hs S2 X2 b2 z2
  go_enter Try.func15, Try.ntmps15
  go_wp2_with fail
  clear hw1 hq y1 y4 hcv hq2
  refine (wframe_any ao m c Z sp (some ⟨q2, 0, none⟩) s.size c2 (strB s) w2 HW.out HA.out HS.out (fun _ k hk e => by have := HG.out.2.2.2 k e; have : q2 = k := Option.some.inj hk; omega) HN.out).mono ?_
  rintro r w3 ⟨rfl, bo, m3, c3, W3, n3, K3⟩
  have HX3 : Hid (Scr w3 q2 s.size) := HX.out.of_block (K3.block q2 HG.out.2.2.1 (by have := HG.out.1; omega) (fun e => by have := HG.out.2.2.2 q2 e.symm; omega))
  have HBO : Hid (blk bo ≠ some q2) := fun e => by
    rcases K3.lies with h | h | ⟨j, h, hj⟩
    · rw [h] at e; cases e
    · rw [h] at e; have := HG.out.2.2.2 q2 e; omega
    · rw [h] at e; have := Option.some.inj e; have := HG.out.2.2.1; omega
  have HW3 := hide W3
  have HK3 := hide (K3.pre HB2.out)
  have HN3 := hide n3
  have HZ : Hid (s.size ≤ 140737488355000) := by show _ ≤ _; have := HN.out; omega
  clear W3 K3 n3 HW HS HX
  go_wp2_with fail
  go_loopw [5] (fun i wr => ∃ k : Nat, k ≤ s.size ∧ i = .int .i64 k ∧ Hid (Wr wr g bo m3 c3 (if sp then [] else Z ++ (numB s.size ++ strB s)) sp ∧ Kp w wr g ao bo ∧ Scr wr q2 s.size)) (fun i _ => s.size - (intOf i).toNat)
  case atStart => exact ⟨0, Nat.zero_le _, rfl, HW3.out, HK3.out, HX3.out⟩
  case round =>
    obtain ⟨k, hk, rfl, HI⟩ := hrel
    by_cases hlt : k < s.size
    · have HK1 : Hid (wrap64 ((k : Int) + 1) = ((k + 1 : Nat) : Int)) := by show _ = _; have := HZ.out; rw [w64 (by omega) (by omega)]; rfl
      have HLT := hide hlt
      obtain ⟨⟨y, hy⟩, fz⟩ := HI.out.2.2 k hlt
      have HI2 : Hid (∀ v : Int, Wr (wr.setCell ⟨q2, k, none⟩ (.int .u8 v)) g bo m3 c3 (if sp then [] else Z ++ (numB s.size ++ strB s)) sp ∧ Kp w (wr.setCell ⟨q2, k, none⟩ (.int .u8 v)) g ao bo ∧ Scr (wr.setCell ⟨q2, k, none⟩ (.int .u8 v)) q2 s.size) := fun v =>
        ⟨HI.out.1.far (by have := HG.out.1; omega) HBO.out k _, HI.out.2.1.far HG.out.2.1 k _, HI.out.2.2.set k v⟩
      clear HI
      go_wp2_with fail
      go_roundw
      case rel => exact ⟨k + 1, HLT.out, by rw [HK1.out], HI2.out _⟩
      case measure => rw [HK1.out]; have := HLT.out; simp [intOf]; omega
    · have HP : Hid (PutW w wr g ao Z 4 n b s sp) := by
        refine ⟨bo, m3, c3, ?_, ?_, HI.out.2.1⟩
        · rw [HF.out.1, HF.out.2]
          have := HI.out.1
          simpa using this
        · rw [HF.out.1]
          have := HN3.out
          simpa using this
      clear HI
      go_wp2_with fail
      go_end0
      exact ⟨rfl, HP.out⟩
/-- a put that has an encoding, into a writer that the call made -/
theorem put_any {w0 : World} {ao : Option Addr} {m c : Nat} {Z : List Int} (z k x : Int) (b : Bool) (s : ByteArray) (W : Wk w0 w g ao m c Z) (hx : x ≤ 9223372036854775807) (hs : m + s.size ≤ 140737488355000) (hk : ¬ (k = 1 ∧ x < 0)) :
    Calls Try.prog 15 #[ptr g, QV ⟨z, k, x, b, s⟩] w fun r w' => r = .returned (.tuple #[]) ∧ ∃ bo m2 cc, Wk w0 w' g bo m2 cc (Z ++ putB k x b s) := by
  have hP : Calls Try.prog 15 #[ptr g, QV ⟨z, k, x, b, s⟩] w fun r w' => r = .returned (.tuple #[]) ∧ PutW w w' g ao Z k x b s false := by
    by_cases h4 : k = 4
    · subst h4
      exact put_frame ao m c Z false z x b s w W.w (fun h => by cases h) hs
    · exact put_plain ao m c Z false z k x b s w W.w (fun h => by cases h) hx hs h4 hk
  refine hP.mono ?_
  rintro r w2 ⟨rfl, bo, m2, cc, h1, -, h3⟩
  have ho : putOK k x = true := by unfold putOK; simp only [decide_eq_false hk]; rfl
  rw [ho] at h1
  refine ⟨rfl, W.put ⟨bo, m2, cc, by simpa using h1, (fun h => by cases h), h3⟩⟩
end Go.Proofs.Ytflinfmhmokfhaa
