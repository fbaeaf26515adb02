/- The law's put. -/
import Derived.Test.YtebedjhfdncabaaYBt
namespace Go.Proofs.Ytebedjhfdncabaa
open Go.RowKit
variable {w w' w2 : World} {g : Nat}
attribute [local go_sem ↓] ldP_eq stP_eq ldQ_eq stQ_eq

theorem Wr.below {ao : Option Addr} {n cap : Nat} {Z : List Int} {sp : Bool} (W : Wr w g ao n cap Z sp) (hb : Below w.heap.size w w') : Wr w' g ao n cap Z sp :=
  ⟨(hb.block g W.lt).trans W.box, W.row.below hb, W.ne, W.nil⟩
theorem Kp.pre {ao bo : Option Addr} (hb : Below w.heap.size w w') (h : Kp w' w2 g ao bo) : Kp w w2 g ao bo :=
  ⟨h.os.trans hb.os, h.tape.trans hb.tape, h.output.trans hb.output, Nat.le_trans hb.size h.size, fun k hk h1 h2 => (h.block k (Nat.lt_of_lt_of_le hk hb.size) h1 h2).trans (hb.block k hk), by
    rcases h.lies with e | e | ⟨j, e, hj⟩
    · exact Or.inl e
    · exact Or.inr (Or.inl e)
    · exact Or.inr (Or.inr ⟨j, e, Nat.le_trans hb.size hj⟩)⟩
/-- what a step's put leaves -/
def PutW (w w' : World) (g : Nat) (ao : Option Addr) (Z : List Int) (k n : Int) (b : Bool) (s : ByteArray) (sp : Bool) : Prop :=
  ∃ bo m cc, Wr w' g bo m cc (if (sp || !putOK k n) = true then [] else Z ++ putB k n b s) (sp || !putOK k n) ∧ ((sp || !putOK k n) = true → bo = none) ∧ Kp w w' g ao bo
theorem Puts.to {ao : Option Addr} {Z Y : List Int} {sp : Bool} {k n : Int} {b : Bool} {s : ByteArray} (hb : Below w.heap.size w w') (h : Puts w' w2 g ao Z Y sp) (hk : putOK k n = true) (hY : putB k n b s = Y) : PutW w w2 g ao Z k n b s sp := by
  obtain ⟨bo, m, cc, W, hn, K⟩ := h
  unfold PutW
  rw [hk, hY]
  refine ⟨bo, m, cc, ?_, ?_, K.pre hb⟩
  · simpa using W
  · simpa using hn
set_option maxRecDepth 100000 in
theorem put_plain (ao : Option Addr) (m c : Nat) (Z : List Int) (sp : Bool) (z k n : Int) (b : Bool) (s : ByteArray) (w : World) (W : Wr w g ao m c Z sp) (hao : sp = true → ao = none) (hn : n ≤ 9223372036854775807) (hs : m + s.size ≤ 140737488355000) (h4 : ¬ k = 4) :
    Calls Try.prog 7 #[ptr g, QV ⟨z, k, n, b, s⟩] w fun r w' => r = .returned (.tuple #[]) ∧ PutW w w' g ao Z k n b s sp := by
  obtain ⟨w1, hw1⟩ : ∃ w1, w.alloc (.cells (QC ⟨z, k, n, b, s⟩) 36) = w1 := ⟨_, rfl⟩
  obtain ⟨q, hq⟩ : ∃ q, w.heap.size = q := ⟨_, rfl⟩
  have HQ : Hid (QBox w1 q ⟨z, k, n, b, s⟩ ∧ Below w.heap.size w w1) := by subst hw1 hq; exact ⟨QBox_new w _, below_new w _⟩
  have y1 := HQ.out.1.c1
  have y2 := HQ.out.1.c2
  have y3 := HQ.out.1.c3
  have y4 := HQ.out.1.c4
  simp only at y1 y2 y3 y4
  have HW := hide (W.below HQ.out.2)
  have HA := hide hao
  have HN := hide (And.intro hn hs)
  clear W hao hn hs
  by_cases h1 : k = 1
  · subst h1
    by_cases h0 : n < 0
    · have HF : Hid (putOK 1 n = false) := by show _ = _; simp [putOK, h0]
      go_enter Try.func7, Try.ntmps7
      go_wp2_with fail
      refine (wspoil_any ao m c Z sp n w1 HW.out h0).mono ?_
      rintro r w2 ⟨rfl, W2, K2⟩
      have HP : Hid (PutW w w2 g ao Z 1 n b s sp) := ⟨none, 0, 0, by rw [HF.out]; simpa using W2, fun _ => rfl, K2.pre HQ.out.2⟩
      clear W2 K2 y1 y2 y3 y4
      go_wp2_with fail
      go_end0
      exact ⟨rfl, HP.out⟩
    · obtain ⟨N, rfl⟩ : ∃ N : Nat, n = N := ⟨n.toNat, by omega⟩
      have HF : Hid (putOK 1 N = true ∧ putB 1 N b s = numB N) := ⟨by simp [putOK, h0], by simp [putB, h0]⟩
      go_enter Try.func7, Try.ntmps7
      go_wp2_with fail
      refine (wnum_any ao m c Z sp N w1 HW.out HA.out (by have := HN.out.1; omega) (by have := HN.out.2; omega)).mono ?_
      rintro r w2 ⟨rfl, P2⟩
      have HP := hide (P2.to HQ.out.2 HF.out.1 HF.out.2)
      clear P2 y1 y2 y3 y4
      go_wp2_with fail
      go_end0
      exact ⟨rfl, HP.out⟩
  · have HO : Hid (putOK k n = true) := by show _ = _; simp [putOK, h1]
    by_cases h2 : k = 2
    · subst h2
      have HF : Hid (putB 2 n b s = [flagB b]) := by show _ = _; simp [putB]
      go_enter Try.func7, Try.ntmps7
      go_wp2_with fail
      refine (wflag_any ao m c Z sp b w1 HW.out HA.out (by have := HN.out.2; omega)).mono ?_
      rintro r w2 ⟨rfl, P2⟩
      have HP := hide (P2.to HQ.out.2 HO.out HF.out)
      clear P2 y1 y2 y3 y4
      go_wp2_with fail
      go_end0
      exact ⟨rfl, HP.out⟩
    · by_cases h3 : k = 3
      · subst h3
        have HF : Hid (putB 3 n b s = numB s.size ++ strB s) := by show _ = _; simp [putB]
        go_enter Try.func7, Try.ntmps7
        go_wp2_with fail
        refine (wtext_any ao m c Z sp s w1 HW.out HA.out HN.out.2).mono ?_
        rintro r w2 ⟨rfl, P2⟩
        have HP := hide (P2.to HQ.out.2 HO.out HF.out)
        clear P2 y1 y2 y3 y4
        go_wp2_with fail
        go_end0
        exact ⟨rfl, HP.out⟩
      · have HF : Hid (putB k n b s = []) := by show _ = _; simp [putB, h1, h2, h3, h4]
        have HP : Hid (PutW w w1 g ao Z k n b s sp) := by
          refine ⟨ao, m, c, ?_, ?_, ⟨HQ.out.2.os, HQ.out.2.tape, HQ.out.2.output, HQ.out.2.size, fun k hk _ _ => HQ.out.2.block k hk, Or.inr (Or.inl rfl)⟩⟩
          · rw [HO.out, HF.out]
            have := HW.out
            cases sp with
            | true => have e := this.nil rfl; subst e; simpa using this
            | false => simpa using this
          · rw [HO.out]; simpa using HA.out
        clear HF
        go_enter Try.func7, Try.ntmps7
        go_wp2_with fail
        go_end0
        exact ⟨rfl, HP.out⟩
end Go.Proofs.Ytebedjhfdncabaa
