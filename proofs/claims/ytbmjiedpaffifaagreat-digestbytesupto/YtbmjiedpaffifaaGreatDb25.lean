/- FPp -/
import Derived.Test.YtbmjiedpaffifaaGreatDb24
namespace Go.Proofs.YtbmjiedpaffifaaGreat
open Go.RowKit
attribute [local go_sem ↓] ldP_eq stP_eq
attribute [local go_sem] zero_PC cells_PV PC_size
theorem checkPast_any (p : Pv) (w : World) (hS : PSrc w p) : Calls Tryz.prog 24 #[PV p] w fun e w' => ∃ x, e = .returned (.int .i64 x) ∧ ((x = 1 ∧ ¬ InForm p.P) ∨ (x = 0 ∧ InForm p.P)) ∧ Below w.heap.size w w' := by
  have b1 := below_new w (.cells (PC p) 25)
  have l1 := run_ldP (pbox_new w p).at
  have HB := hide b1
  have HS := hide (hS.below b1)
  clear hS b1
  go_enter Tryz.func24, Tryz.ntmps24
  go_wp2_with fail
  refine (isNormP_any p _ HS.out).mono ?_
  rintro e w2 ⟨b, rfl, hb, b2⟩
  have HB2 := hide (HB.out.trans (b2.mono HB.out.size))
  clear b2 l1
  cases b with
  | false =>
    have HN : Hid (¬ InForm p.P) := fun h => by have := hb.out.2 h; cases this
    clear hb
    go_wp2_with fail
    go_ret
    exact ⟨1, rfl, .inl ⟨rfl, HN.out⟩, HB2.out⟩
  | true =>
    have HN : Hid (InForm p.P) := hb.out.1 rfl
    clear hb
    go_wp2_with fail
    go_ret
    exact ⟨0, rfl, .inr ⟨rfl, HN.out⟩, HB2.out⟩
/-- what PutPast answers -/
def PutA (w w' : World) (e : Ending) (P : Pst) : Prop :=
  (¬ InForm P ∧ e = .returned (.tuple #[.slice none 0 0, .int .i64 1]) ∧ Below w.heap.size w w') ∨ (InForm P ∧ ∃ bo cc, e = .returned (.tuple #[.slice bo (pastB P).length cc, .int .i64 0]) ∧ U.BR w' bo (pastB P).length cc (pastB P) ∧ U.NewB w w' bo)
theorem pw_new (w0 : World) : PW w0 (w0.alloc (.cells #[.slice none 0 0, .bool false] 111)) w0.heap.size none 0 0 [] [] := ⟨U.wk_new w0, fun x hx => by cases hx⟩
theorem pastB_len {P : Pst} (h : InForm P) : (pastB P).length ≤ 200000000000 := by
  have h1 := inf_len h
  have h2 := (canon_len (canon_iff.2 h)).1
  have h3 := vecB_len (V := P.vec) (inf_bd h)
  have h4 := cloudB_max P.cloud (trl P.vec) 0 (Int.le_refl 0) (inf_trl h) (trl_pos (inf_bd h))
  have h5 := U.numB_len 9 P.vec.length (by omega)
  have h6 := U.numB_len 9 P.cloud.length (by omega)
  unfold pastB
  simp only [List.length_append]
  omega
set_option maxRecDepth 100000 in
set_option maxHeartbeats 1600000 in
theorem packPut_any (p : Pv) (w : World) (hS : PSrc w p) : Calls Tryz.prog 23 #[PV p, .func (.func 24) #[] #[], .func (.func 25) #[] #[]] w fun e w' => PutA w w' e p.P := by
  have b1 := below_new w (.cells (PC p) 25)
  have HX := hide (pbox_new w p)
  have HB := hide b1
  have HS := hide (hS.below b1)
  clear hS b1
  obtain ⟨wk, hwk⟩ : ∃ wk, w.alloc (.cells (PC p) 25) = wk := ⟨_, rfl⟩
  obtain ⟨G, hG⟩ : ∃ G, w.heap.size = G := ⟨_, rfl⟩
  rw [hwk] at HX HB HS
  rw [hG] at HX
  have l1 := run_ldP HX.out.at
  go_enter Tryz.func23, Tryz.ntmps23
  go_wp2_with fail
  clear hwk hG
  refine (checkPast_any p _ HS.out).mono ?_
  rintro e w2 ⟨x, rfl, hx, b2⟩
  have HB2 := hide (HB.out.trans (b2.mono HB.out.size))
  have HX2 := hide (HX.out.below b2)
  have HS2 := hide (HS.out.below b2)
  clear b2 l1 HX HB HS
  rcases hx with ⟨rfl, hn⟩ | ⟨rfl, hy⟩
  · have HN := hide hn
    clear hn
    go_wp2_with fail
    go_ret2
    exact .inl ⟨HN.out, rfl, HB2.out⟩
  · have HY := hide hy
    clear hy
    go_wp2_with fail
    refine (U.new_any _).mono ?_
    rintro e w3 ⟨rfl, rfl⟩
    have P3 := pw_new w2
    obtain ⟨gw, hgw⟩ : ∃ gw, w2.heap.size = gw := ⟨_, rfl⟩
    obtain ⟨w3, hw3⟩ : ∃ w3, w2.alloc (.cells #[.slice none 0 0, .bool false] 111) = w3 := ⟨_, rfl⟩
    rw [hw3, hgw] at P3
    have P4 := P3.add (.cells #[U.ptr gw] 58)
    obtain ⟨b8, hb8⟩ : ∃ b8, w3.heap.size = b8 := ⟨_, rfl⟩
    obtain ⟨w4, hw4⟩ : ∃ w4, w3.alloc (.cells #[U.ptr gw] 58) = w4 := ⟨_, rfl⟩
    rw [hw4, hb8] at P4
    have HP4 := hide P4
    have c4 := box_cell (P4.keep (b8, .cells #[U.ptr gw] 58) (by simp)).1
    have l4 := run_ldP (HX2.out.below P4.wk.bel).at
    rw [hgw, hw3]
    clear P3 P4
    go_wp2_with fail
    clear hw3 hw4 hgw hb8
    refine (wpast_any HP4.out p HS2.out HY.out (by omega)).mono ?_
    rintro e w5 ⟨rfl, bo, m, cc, P5⟩
    rw [List.nil_append] at P5
    have hm := P5.wk.len
    have HP5 := hide P5
    have c5 := box_cell (P5.keep (b8, .cells #[U.ptr gw] 58) (by simp)).1
    have HM : Hid (m ≤ 200000000000) := by show _ ≤ _; rw [← hm]; exact pastB_len HY.out
    have HML := hide hm
    clear P5 c4 l4 hm
    go_wp2_with fail
    refine (U.done_ok bo m cc _ _ HP5.out.wk.w (by have := HM.out; omega)).mono ?_
    rintro e w6 ⟨bo2, cc2, rfl, hr6, hn6⟩
    have HF : Hid (PutA w w6 (.returned (.tuple #[.slice bo2 m cc2, .int .i64 0])) p.P) := by
      have hb := HB2.out.trans ((HP5.out.wk.bel.trans (hn6.1.mono HP5.out.wk.bel.size)).mono HB2.out.size)
      refine .inr ⟨HY.out, bo2, cc2, by rw [HML.out], by rw [HML.out]; exact hr6, hb, fun k e => ?_⟩
      have h1 := hn6.2 k e
      have h2 := HP5.out.wk.bel.size
      have h3 := HB2.out.size
      omega
    clear hr6 hn6 c5
    go_wp2_with fail
    go_ret2
    exact HF.out
theorem PutA.pre {w wk w' : World} {e : Ending} {P : Pst} (b : Below w.heap.size w wk) (h : PutA wk w' e P) : PutA w w' e P := by
  rcases h with ⟨h1, h2, h3⟩ | ⟨h1, bo, cc, h2, h3, h4⟩
  · exact .inl ⟨h1, h2, b.trans (h3.mono b.size)⟩
  · exact .inr ⟨h1, bo, cc, h2, h3, b.trans (h4.1.mono b.size), fun k e => Nat.le_trans b.size (h4.2 k e)⟩
theorem putPast_any (p : Pv) (w : World) (hS : PSrc w p) : Calls Tryz.prog 10 #[PV p] w fun e w' => PutA w w' e p.P := by
  have b1 := below_new w (.cells (PC p) 25)
  have l1 := run_ldP (pbox_new w p).at
  have HB := hide b1
  have HS := hide (hS.below b1)
  clear hS b1
  go_enter Tryz.func10, Tryz.ntmps10
  go_wp2_with fail
  refine (packPut_any p _ HS.out).mono ?_
  rintro e w2 h
  have HF := hide (h.pre HB.out)
  rcases h with ⟨h1, rfl, h3⟩ | ⟨h1, bo, cc, rfl, h3, h4⟩
  · clear h1 h3 l1
    go_wp2_with fail
    go_ret2
    exact HF.out
  · clear h1 h3 h4 l1
    go_wp2_with fail
    go_ret2
    exact HF.out
end Go.Proofs.YtbmjiedpaffifaaGreat
