/- The law's puts and said. -/
import Derived.Test.YtflinfmhmokfhaaUBp
import Derived.Test.YtflinfmhmokfhaaUGr
import Derived.Deep.DeepCutAuto
namespace Go.Proofs.Ytflinfmhmokfhaa
open Go.RowKit
theorem fold_QC1 (m : Stp) : Array.foldl (fun cs x => cs.setIfInBounds x.snd x.fst) #[(QC ⟨0, 0, 0, false, ⟨#[]⟩⟩)[0]!, (QC ⟨0, 0, 0, false, ⟨#[]⟩⟩)[1]!, (QC ⟨0, 0, 0, false, ⟨#[]⟩⟩)[2]!, (QC ⟨0, 0, 0, false, ⟨#[]⟩⟩)[3]!, (QC ⟨0, 0, 0, false, ⟨#[]⟩⟩)[4]!] (QC m).zipIdx 0 5 = QC m := rfl
theorem to_QC (z k n : Int) (b : Bool) (s : ByteArray) : (#[.int .i64 z, .int .i64 k, .int .i64 n, .bool b, .string s] : Array Value) = QC ⟨z, k, n, b, s⟩ := rfl
attribute [local go_sem ↓] ldG_eq stG_eq ldK_eq stK_eq ldQ_eq stQ_eq
attribute [local go_sem] GC_size KC_size QC_size to_QC fold_QC1
variable {w w' w2 w3 wr : World} {g : Nat} {so lo : Option Addr} {sn sc ln lc : Nat} {X : List Stp}

/-- does the step put something that has an encoding? -/
def okB (s : Stp) : Bool := decide (1 ≤ s.kind) && decide (s.kind ≤ 4) && (decide (¬ s.kind = 1) || decide (0 ≤ s.n))
theorem qcs_lit (m : Stp) : (QC m).toList = qcs [m] := by simp [qcs]
theorem filter_succ (X : List Stp) {k : Nat} (hk : k < X.length) {s : Stp} (hs : X.getD k q0 = s) : (X.take (k + 1)).filter okB = (X.take k).filter okB ++ (if okB s then [s] else []) := by
  have e : X.take (k + 1) = X.take k ++ [s] := by
    rw [List.take_succ_eq_append_getElem hk, ← hs, List.getD_eq_getElem?_getD, List.getElem?_eq_getElem hk]
    rfl
  rw [e, List.filter_append]
  congr 1
  cases h : okB s <;> simp [h]
/-- what puts has so far -/
structure PI (w wr : World) (lo : Option Addr) (ln lc : Nat) (L : List Stp) : Prop where
  qr : QR wr lo ln lc L
  bel : Below w.heap.size w wr
  ge : ∀ b, blk lo = some b → w.heap.size ≤ b
theorem PI.below {L : List Stp} (h : PI w wr lo ln lc L) (b : Below wr.heap.size wr w2) : PI w w2 lo ln lc L := ⟨h.qr.below b, h.bel.trans (b.mono h.bel.size), h.ge⟩
theorem PI.app {L M : List Stp} {bo : Option Addr} {m c2 : Nat} (h : PI w wr lo ln lc L) (R : QR w2 bo m c2 M) (A : Ap wr w2 lo bo) : PI w w2 bo m c2 M := by
  have hs := h.bel.size
  refine ⟨R, ⟨A.grown.os.trans h.bel.os, A.grown.tape.trans h.bel.tape, A.grown.output.trans h.bel.output, Nat.le_trans hs A.grown.size, fun k hk => (A.grown.block k (by omega) (fun e => by have := h.ge k e.symm; omega)).trans (h.bel.block k hk)⟩, fun b e => ?_⟩
  rcases A.lies with x | ⟨j, x, hj⟩
  · rw [x] at e; exact h.ge b e
  · rw [x] at e
    have := Option.some.inj e
    omega
set_option maxRecDepth 100000 in
set_option maxHeartbeats 2000000 in
theorem puts_any (so : Option Addr) (sn sc : Nat) (X : List Stp) (w : World) (S : QSrc w so sn sc X) (hn : sn ≤ 1048576) : Calls Try.prog 13 #[.slice so sn sc] w fun r w' => ∃ lo ln lc, r = .returned (.slice lo ln lc) ∧ PI w w' lo ln lc (X.filter okB) := by
  have HS := hide S
  have HN := hide hn
  have HX : Hid (X.length = sn) := S.len
  clear S hn
  go_enter Try.func13, Try.ntmps13
  go_wp2_with fail
  go_loopw [3, 4] (fun v i wr => ∃ (k : Nat) (lo : Option Addr) (ln lc : Nat), k ≤ sn ∧ i = .int .i64 k ∧ v = .slice lo ln lc ∧ Hid (ln ≤ k ∧ PI w wr lo ln lc ((X.take k).filter okB))) (fun _ i _ => sn - (intOf i).toNat)
  case atStart => exact ⟨0, none, 0, 0, Nat.zero_le _, rfl, rfl, Nat.le_refl _, QR.nil _, Below.refl _ _, (fun b e => by cases e)⟩
  case round =>
    obtain ⟨k, lo, ln, lc, hk, rfl, rfl, HI⟩ := hrel
    by_cases hlt : k < sn
    · have HLT := hide hlt
      have HK1 : Hid (wrap64 ((k : Int) + 1) = ((k + 1 : Nat) : Int)) := by show _ = _; have := HN.out; rw [w64 (by omega) (by omega)]; rfl
      obtain ⟨ad, rfl, A⟩ := HS.out.at k hlt
      obtain ⟨s, hs⟩ : ∃ s, X.getD k q0 = s := ⟨_, rfl⟩
      have HF := hide (filter_succ X (by rw [HX.out]; exact hlt) hs)
      rw [hs] at A
      have hld := run_laQ (A.on HI.out.2.bel)
      obtain ⟨g5, hg5⟩ : ∃ g5, wr.heap.size = g5 := ⟨_, rfl⟩
      have hld2 := run_laQ ((A.on HI.out.2.bel).on (below_new wr (.cells (QC ⟨0, 0, 0, false, ⟨#[]⟩⟩) 42)))
      obtain ⟨wq, hst, M5, b5, -⟩ := madeQ wr s g5 hg5
      simp only [q0] at hst
      have x1 := M5.c1
      have x2 := M5.c2
      have hl5 := run_ldQ M5
      have HI5 := hide (HI.out.2.below b5)
      have HB : Hid (ln + 1 ≤ 2932031007302) := by show _ ≤ _; have := HI.out.1; have := HN.out; omega
      have HL : Hid (ln ≤ k) := HI.out.1
      clear A hs M5 b5 HI hk
      by_cases h1 : 1 ≤ s.kind
      · by_cases h4 : s.kind ≤ 4
        · by_cases h5 : s.kind = 1
          · have h5b : (s.kind != 1) = false := by simp [h5]
            by_cases h0 : 0 ≤ s.n
            · have HO : Hid (okB s = true) := by show _ = _; simp [okB, h5, h0]
              clear h5
              go_wp2_with (at_builtin; refine HI5.out.qr.app (L := [s]) (cs := QC s) (m := 1) rfl (qcs_lit s) HB.out rfl (.tmp 34) (.tmp 36) rfl rfl rfl ?_; intro bo c2 w6 R6 A6; have HI6 := hide (HI5.out.app R6 A6); clear R6 A6)
              go_roundw
              case rel => exact ⟨k + 1, bo, ln + 1, c2, HLT.out, (by rw [HK1.out]), rfl, by have := HL.out; omega, by rw [HF.out, if_pos HO.out]; exact HI6.out⟩
              case measure => rw [HK1.out]; have := HLT.out; simp [intOf]; omega
            · have HO : Hid (okB s = false) := by show _ = _; simp [okB, h5]; omega
              clear h5
              go_wp2_with fail
              go_roundw
              case rel => exact ⟨k + 1, lo, ln, lc, HLT.out, (by rw [HK1.out]), rfl, by have := HL.out; omega, by rw [HF.out, if_neg (by rw [HO.out]; decide), List.append_nil]; exact HI5.out⟩
              case measure => rw [HK1.out]; have := HLT.out; simp [intOf]; omega
          · have h5b : (s.kind != 1) = true := by simpa using h5
            have HO : Hid (okB s = true) := by show _ = _; simp [okB, h1, h4, h5]
            clear h5
            go_wp2_with (at_builtin; refine HI5.out.qr.app (L := [s]) (cs := QC s) (m := 1) rfl (qcs_lit s) HB.out rfl (.tmp 34) (.tmp 36) rfl rfl rfl ?_; intro bo c2 w6 R6 A6; have HI6 := hide (HI5.out.app R6 A6); clear R6 A6)
            go_roundw
            case rel => exact ⟨k + 1, bo, ln + 1, c2, HLT.out, (by rw [HK1.out]), rfl, by have := HL.out; omega, by rw [HF.out, if_pos HO.out]; exact HI6.out⟩
            case measure => rw [HK1.out]; have := HLT.out; simp [intOf]; omega
        · have HO : Hid (okB s = false) := by show _ = _; simp [okB, h4]
          go_wp2_with fail
          go_roundw
          case rel => exact ⟨k + 1, lo, ln, lc, HLT.out, (by rw [HK1.out]), rfl, by have := HL.out; omega, by rw [HF.out, if_neg (by rw [HO.out]; decide), List.append_nil]; exact HI5.out⟩
          case measure => rw [HK1.out]; have := HLT.out; simp [intOf]; omega
      · have HO : Hid (okB s = false) := by show _ = _; simp [okB, h1]
        go_wp2_with fail
        go_roundw
        case rel => exact ⟨k + 1, lo, ln, lc, HLT.out, (by rw [HK1.out]), rfl, by have := HL.out; omega, by rw [HF.out, if_neg (by rw [HO.out]; decide), List.append_nil]; exact HI5.out⟩
        case measure => rw [HK1.out]; have := HLT.out; simp [intOf]; omega
    · obtain rfl : k = sn := by omega
      have HE : Hid (PI w wr lo ln lc (X.filter okB)) := by
        have := HI.out.2
        rw [List.take_of_length_le (by rw [HX.out]; exact Nat.le_refl _)] at this
        exact this
      clear HI
      go_wp2_with fail
      go_ret
      exact ⟨lo, ln, lc, rfl, HE.out⟩
set_option maxRecDepth 100000 in
theorem said_any (s : Stp) (hs : OkS s) (w : World) : Calls Try.prog 18 #[.agg (GC (gotS s)), .agg (QC s)] w fun r w' => r = .returned (.bool true) ∧ Below w.heap.size w w' := by
  obtain ⟨z, k, n, b, t⟩ := s
  have hk := hs.kind
  simp only at hk
  clear hs
  obtain ⟨m, hm⟩ : ∃ m, gotS ⟨z, k, n, b, t⟩ = m := ⟨_, rfl⟩
  rw [hm]
  obtain ⟨g2, hg2⟩ : ∃ g2, w.heap.size = g2 := ⟨_, rfl⟩
  obtain ⟨w1, hw1⟩ : ∃ w1, w.alloc (.cells (GC m) 29) = w1 := ⟨_, rfl⟩
  obtain ⟨w2, hw2⟩ : ∃ w2, w1.alloc (.cells (QC ⟨z, k, n, b, t⟩) 42) = w2 := ⟨_, rfl⟩
  have hs1 : w1.heap.size = g2 + 1 := by rw [← hw1, World.size_alloc, hg2]
  have b1 := below_new w (.cells (GC m) 29)
  have h1 : GBox (w.alloc (.cells (GC m) 29)) w.heap.size m := GBox_new w _
  rw [hw1] at b1 h1
  have b2 := below_new w1 (.cells (QC ⟨z, k, n, b, t⟩) 42)
  have h2 : QBox (w1.alloc (.cells (QC ⟨z, k, n, b, t⟩) 42)) w1.heap.size ⟨z, k, n, b, t⟩ := QBox_new w1 _
  rw [hw2] at b2 h2
  rw [hg2] at h1
  rw [hs1] at h2
  have hG := h1.below b2
  have x0 := hG.c0
  have x1 := hG.c1
  have x2 := hG.c2
  have y1 := h2.c1
  have y2 := h2.c2
  have y3 := h2.c3
  have y4 := h2.c4
  simp only at y1 y2 y3 y4
  have HB := hide (b1.trans (b2.mono b1.size))
  clear b1 b2 h1 h2 hG
  rcases kinds4 hk with rfl | rfl | rfl | rfl
  · have e : m.n = n := by rw [← hm]; rfl
    rw [e] at x0
    clear hk hm
    go_enter Try.func18, Try.ntmps18
    go_wp2_with fail
    go_ret
    exact ⟨rfl, HB.out⟩
  · have e : m.b = b := by rw [← hm]; rfl
    rw [e] at x1
    clear hk hm
    go_enter Try.func18, Try.ntmps18
    go_wp2_with fail
    go_ret
    exact ⟨rfl, HB.out⟩
  · have e : m.s = t := by rw [← hm]; rfl
    rw [e] at x2
    clear hk hm
    go_enter Try.func18, Try.ntmps18
    go_wp2_with fail
    go_ret
    exact ⟨rfl, HB.out⟩
  · have e : m.s = t := by rw [← hm]; rfl
    rw [e] at x2
    clear hk hm
    go_enter Try.func18, Try.ntmps18
    go_wp2_with fail
    go_ret
    exact ⟨rfl, HB.out⟩
end Go.Proofs.Ytflinfmhmokfhaa
