/- barrowref07.Merge. -/
import Derived.Test.YtfpmijfcemopoaaGreatTk
import Derived.Test.YtfpmijfcemopoaaGreatKm03
import Derived.Test.YtfpmijfcemopoaaGreatKm04
import Derived.Test.YtfpmijfcemopoaaGreatKb13
namespace Go.Proofs.YtfpmijfcemopoaaGreat
open Go.RowKit
attribute [local go_sem ↓] ldP_eq stP_eq
attribute [local go_sem] cells_PV PC_size zero_PC
theorem left_noclash {A B A' B' : List K.En} (hA : ∀ x ∈ A', x ∈ A) (hB : ∀ x ∈ B', x ∈ B) (h : ¬ K.Clash (A ++ B)) : ¬ K.Clash (A' ++ B') := fun ⟨x, hx, y, hy, h1, h2⟩ =>
 h ⟨x, List.mem_append.2 ((List.mem_append.1 hx).imp (hA x) (hB x)), y, List.mem_append.2 ((List.mem_append.1 hy).imp (hA y) (hB y)), h1, h2⟩
theorem okN_no {L : List K.En} {n : Nat} (hl : L.length = n) (h : K.okN L n = false) : ¬ K.chk L = 0 := fun hc => by
 have := (ok_chk hl).1 hc
 rw [h] at this
 cases this
set_option maxRecDepth 100000 in
set_option maxHeartbeats 3200000 in
theorem refMerge_any (ao bo : Option Addr) (n cap m cap' : Nat) (A B : List K.En) (p o : Pv) (w : World) (hA : K.ESrc w ao n cap A) (hB : K.ESrc w bo m cap' B) (hP : PSrc w p) (hO : PSrc w o) :
  Calls Tryz.prog 33 #[.slice ao n cap, PV p, .slice bo m cap', PV o] w fun x w' => MgA w w' x A B p.P o.P := by
 have b1 := below_new w (.cells (PC p) 27)
 have b2 := below_new (w.alloc (.cells (PC p) 27)) (.cells (PC o) 27)
 have HXA := hide ((pbox_new w p).below b2)
 have X2 := pbox_new (w.alloc (.cells (PC p) 27)) o
 rw [World.size_alloc] at X2
 have HXB := hide X2
 have HBK := hide (b1.trans (b2.mono b1.size))
 have HA := hide (hA.below HBK.out)
 have HB := hide (hB.below HBK.out)
 have HP := hide (hP.below HBK.out)
 have HO := hide (hO.below HBK.out)
 have HL : Hid (A.length = n ∧ B.length = m) := ⟨hA.1, hB.1⟩
 clear b1 b2 X2 hA hB hP hO
 obtain ⟨wk, hwk⟩ : ∃ wk, (w.alloc (.cells (PC p) 27)).alloc (.cells (PC o) 27) = wk := ⟨_, rfl⟩
 obtain ⟨G, hG⟩ : ∃ G, w.heap.size = G := ⟨_, rfl⟩
 rw [hwk] at HXA HXB HBK HA HB HP HO
 rw [hG] at HXA HXB
 have bad : Hid (∀ W, Below wk.heap.size wk W → ¬ OkM A B p.P o.P → MgA w W (.returned (.tuple #[.slice none 0 0, .int .i64 1])) A B p.P o.P) := fun W hW h => ⟨_, _, _, _, _, rfl, K.ESrc.none _, HBK.out.trans (hW.mono HBK.out.size), .inl ⟨h, rfl, rfl⟩⟩
 go_enter Tryz.func33, Tryz.ntmps33
 go_wp2_with fail
 clear hwk hG
 refine (K.refEnts07_any ao n cap A _ HA.out).mono ?_
 rintro x w2 ⟨rfl, b2⟩
 have HB2 := hide b2
 clear b2
 cases hc : K.okN A n with
 | false =>
  have HE := hide (bad.out w2 HB2.out (fun h => okN_no HL.out.1 hc h.1))
  clear hc
  go_wp2_with fail
  go_ret2
  exact HE.out
 | true =>
  have HC1 : Hid (K.chk A = 0) := (ok_chk HL.out.1).2 hc
  clear hc
  have l2 := run_ldP (HXA.out.below HB2.out).at
  go_wp2_with fail
  clear l2
  refine (refIsNorm_any p _ (HP.out.below HB2.out)).mono ?_
  rintro x w3 ⟨b, rfl, hb, b3⟩
  have HB3 := hide (HB2.out.trans (b3.mono HB2.out.size))
  clear b3 HB2
  cases b with
  | false =>
   have HE := hide (bad.out w3 HB3.out (fun h => by have := hb.out.2 h.2.2.1; cases this))
   clear hb
   go_wp2_with fail
   go_ret2
   exact HE.out
  | true =>
   have HF1 : Hid (InForm p.P) := hb.out.1 rfl
   clear hb
   go_wp2_with fail
   refine (K.refEnts07_any bo m cap' B _ (HB.out.below HB3.out)).mono ?_
   rintro x w4 ⟨rfl, b4⟩
   have HB4 := hide (HB3.out.trans (b4.mono HB3.out.size))
   clear b4 HB3
   cases hc : K.okN B m with
   | false =>
    have HE := hide (bad.out w4 HB4.out (fun h => okN_no HL.out.2 hc h.2.1))
    clear hc
    go_wp2_with fail
    go_ret2
    exact HE.out
   | true =>
    have HC2 : Hid (K.chk B = 0) := (ok_chk HL.out.2).2 hc
    clear hc
    have l4 := run_ldP (HXB.out.below HB4.out).at
    go_wp2_with fail
    clear l4
    refine (refIsNorm_any o _ (HO.out.below HB4.out)).mono ?_
    rintro x w5 ⟨b, rfl, hb, b5⟩
    have HB5 := hide (HB4.out.trans (b5.mono HB4.out.size))
    clear b5 HB4
    cases b with
    | false =>
     have HE := hide (bad.out w5 HB5.out (fun h => by have := hb.out.2 h.2.2.2; cases this))
     clear hb
     go_wp2_with fail
     go_ret2
     exact HE.out
    | true =>
     have HOk : Hid (OkM A B p.P o.P) := ⟨HC1.out, HC2.out, HF1.out, hb.out.1 rfl⟩
     have HAs : Hid (K.Asc A ∧ K.Asc B) := ⟨K.chk_asc' HC1.out, K.chk_asc' HC2.out⟩
     clear hb
     go_wp2_with fail
     refine (K.clashes_any ao bo n cap m cap' A B _ (HA.out.below HB5.out) (HB.out.below HB5.out) HAs.out.1 HAs.out.2).mono ?_
     rintro x w6 ⟨b, rfl, hcl, b6⟩
     have HB6 := hide (HB5.out.trans (b6.mono HB5.out.size))
     clear b6 HB5
     cases b with
     | true =>
      have HE : Hid (MgA w w6 (.returned (.tuple #[.slice none 0 0, .int .i64 10])) A B p.P o.P) := ⟨_, _, _, _, _, rfl, K.ESrc.none _, HBK.out.trans (HB6.out.mono HBK.out.size), .inr (.inl ⟨HOk.out, hcl.1 rfl, rfl, rfl⟩)⟩
      clear hcl
      go_wp2_with fail
      go_ret2
      exact HE.out
     | false =>
      have HCl : Hid (¬ K.Clash (A ++ B)) := fun h => by have := hcl.2 h; cases this
      have HSt : Hid (∀ W, Below w6.heap.size w6 W → (ldP (.pointer (some ⟨G, 0, none⟩))).run Tryz.prog W = .ok (PV p) W ∧ (ldP (.pointer (some ⟨G + 1, 0, none⟩))).run Tryz.prog W = .ok (PV o) W) := fun W hW => ⟨run_ldP ((HXA.out.below HB6.out).below hW).at, run_ldP ((HXB.out.below HB6.out).below hW).at⟩
      have HAB : Hid (∀ W, Below w6.heap.size w6 W → K.ESrc W ao n cap A ∧ K.ESrc W bo m cap' B ∧ PSrc W p ∧ PSrc W o) := fun W hW => ⟨(HA.out.below HB6.out).below hW, (HB.out.below HB6.out).below hW, (HP.out.below HB6.out).below hW, (HO.out.below HB6.out).below hW⟩
      clear hcl
      go_upto_region 5 with fail
      refine wp_region_held_drew (S := fun W => (ldP (.pointer (some ⟨G, 0, none⟩))).run Tryz.prog W = .ok (PV p) W ∧ (ldP (.pointer (some ⟨G + 1, 0, none⟩))).run Tryz.prog W = .ok (PV o) W) (by kernel_rfl) (HSt.out _ (below_drew1 w6)) (fun hHeld => ?_)
      refine wTk 0 ⟨some 31, .move (.tmp 0), 23, "ref.go:263", #[], none⟩ rfl ?_
      refine wTk 1 ⟨some 32, .move (.tmp 2), 23, "ref.go:263", #[], none⟩ rfl ?_
      refine wTk 2 ⟨some 33, .load 27 (.tmp 7), 27, "ref.go:263", #[], none⟩ rfl ?_
      refine wTk 4 ⟨some 35, .move (.tmp 2), 23, "ref.go:263", #[], none⟩ rfl ?_
      refine wTk 5 ⟨some 36, .move (.tmp 0), 23, "ref.go:263", #[], none⟩ rfl ?_
      refine wTk 6 ⟨some 37, .load 27 (.tmp 5), 27, "ref.go:263", #[], none⟩ rfl ?_
      refine wpAnyH_ready (rs := [3]) (by kernel_rfl) (by simp) (.cons rfl (fun K hK => ?_) .nil)
      go_simp
      go_wp2_with fail
      refine (left_any ao bo n cap m cap' A B o _ (HAB.out _ (below_drew1 w6)).1 (HAB.out _ (below_drew1 w6)).2.1 HAs.out.2 (HAB.out _ (below_drew1 w6)).2.2.2).mono ?_
      rintro x w7 ⟨a7, n7, c7, rfl, S7, b7⟩
      have HB7 : Hid (Below w6.heap.size w6 w7) := (below_drew1 w6).trans b7
      have HS7 := hide S7
      refine hK.out _ _ (HSt.out _ HB7.out) (fun hHeld => ?_)
      clear hK K
      clear b7 S7
      refine wpAnyH_ready (rs := [7]) (by kernel_rfl) (by simp) (.cons rfl (fun K hK => ?_) .nil)
      go_simp
      go_wp2_with fail
      refine (left_any bo ao m cap' n cap B A p _ (HAB.out _ HB7.out).2.1 (HAB.out _ HB7.out).1 HAs.out.1 (HAB.out _ HB7.out).2.2.1).mono ?_
      rintro x w8 ⟨a8, n8, c8, rfl, S8, b8⟩
      have HB8 : Hid (Below w6.heap.size w6 w8) := HB7.out.trans (b8.mono HB7.out.size)
      have HS8 : Hid (Go.Proofs.YtfpmijfcemopoaaGreat.K.ESrc w8 a7 n7 c7 (A.filter (stayB B o.P)) ∧ Go.Proofs.YtfpmijfcemopoaaGreat.K.ESrc w8 a8 n8 c8 (B.filter (stayB A p.P))) := ⟨HS7.out.below b8, S8⟩
      have Hn : Hid (n7 + n8 ≤ 3518437208883) := by
       show _ ≤ _
       have h1 := HS8.out.1.1
       have h2 := HS8.out.2.1
       have h3 := List.length_filter_le (stayB B o.P) A
       have h4 := List.length_filter_le (stayB A p.P) B
       have h5 := Go.Proofs.YtfpmijfcemopoaaGreat.K.chk_len HC1.out
       have h6 := Go.Proofs.YtfpmijfcemopoaaGreat.K.chk_len HC2.out
       omega
      refine hK.out _ _ (HSt.out _ HB8.out) (fun hHeld => ?_)
      clear hK K
      clear b8 S8 HS7
      refine wpAnyH_ready (rs := [8]) (by kernel_rfl) (by simp) (.cons rfl (fun K hK => ?_) .nil)
      go_simp
      go_wp2_with fail
      refine (Go.Proofs.YtfpmijfcemopoaaGreat.K.both_any a7 a8 n7 c7 n8 c8 _ _ _ HS8.out.1 HS8.out.2 (HAs.out.1.filter _) (HAs.out.2.filter _) (left_noclash (fun x hx => (List.mem_filter.1 hx).1) (fun x hx => (List.mem_filter.1 hx).1) HCl.out) Hn.out).mono ?_
      rintro x w9 ⟨a9, n9, c9, Z, rfl, S9, b9, hZ, hm⟩
      have HB9 := hide (HB8.out.trans (b9.mono HB8.out.size))
      have HE : Hid (MgA w w9 (.returned (.tuple #[.slice a9 n9 c9, .int .i64 0])) A B p.P o.P) := ⟨a9, n9, c9, Z, 0, rfl, S9, HBK.out.trans ((HB6.out.trans (HB9.out.mono HB6.out.size)).mono HBK.out.size), .inr (.inr ⟨HOk.out, HCl.out, rfl, hZ, fun x => by rw [hm x, List.mem_filter, List.mem_filter]; rfl⟩)⟩
      refine hK.out _ _ (HSt.out _ HB9.out) (fun hHeld => ?_)
      clear hK K
      clear S9 b9 hZ hm
      refine wTk 9 ⟨some 8, .assign (.tmp 39), 23, "ref.go:263", #[⟨8, .data⟩, ⟨8, .chain⟩, ⟨0, .phase⟩, ⟨1, .phase⟩, ⟨2, .phase⟩, ⟨3, .phase⟩, ⟨4, .phase⟩, ⟨5, .phase⟩, ⟨6, .phase⟩, ⟨7, .phase⟩, ⟨8, .phase⟩], none⟩ rfl ?_
      refine wTk 10 ⟨some 9, .assign (.const (.int .i64 0)), 32, "ref.go:263", #[⟨9, .chain⟩, ⟨0, .phase⟩, ⟨1, .phase⟩, ⟨2, .phase⟩, ⟨3, .phase⟩, ⟨4, .phase⟩, ⟨5, .phase⟩, ⟨6, .phase⟩, ⟨7, .phase⟩, ⟨8, .phase⟩, ⟨9, .phase⟩], none⟩ rfl ?_
      refine wpAnyH_done (by kernel_rfl) ?_ _
      clear hHeld
      go_wp2_with fail
      go_ret2
      exact HE.out
end Go.Proofs.YtfpmijfcemopoaaGreat
