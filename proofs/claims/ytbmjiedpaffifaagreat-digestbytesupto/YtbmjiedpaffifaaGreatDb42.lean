/- ZGf ZRq -/
import Derived.Test.YtbmjiedpaffifaaGreatDb40
import Derived.Test.YtbmjiedpaffifaaGreatDb39
import Derived.Test.YtbmjiedpaffifaaGreatDb41
import Derived.Test.YtbmjiedpaffifaaGreatDb36
import Derived.Test.YtbmjiedpaffifaaGreatDb28
namespace Go.Proofs.YtbmjiedpaffifaaGreat
open Go.RowKit
attribute [local go_sem ↓] ldP_eq stP_eq ldDi_eq stDi_eq
attribute [local go_sem] cells_PV PC_size cells_DiV DiC_size
variable {w w' w2 W W' : World} {g gv : Nat} {Z : List Int}

theorem fold_two (p q : Pv) : Array.foldl (fun (cs : Array Value) (x : Value × Nat) => cs.setIfInBounds (2 + x.snd) x.fst) (Array.foldl (fun (cs : Array Value) (x : Value × Nat) => cs.setIfInBounds x.snd x.fst) #[Value.slice none 0 0, Value.slice none 0 0, Value.slice none 0 0, Value.slice none 0 0] (PC p).zipIdx 0 2) (PC q).zipIdx 0 2 = DiC (mkD ⟨p, q⟩) := by rfl
attribute [local go_sem] fold_two
/-- what Get answers -/
def GqD (w w' : World) (Z : List Int) (r : Ending) : Prop := Below w.heap.size w w' ∧
  ((∃ d, FormD d.h.P d.l.P ∧ Z = digB d.h.P d.l.P ∧ r = .returned (.tuple #[DiV (mkD d), .int .i64 0]) ∧ DgOk w' d) ∨
    ((∀ H L, FormD H L → Z ≠ digB H L) ∧ r = .returned (.tuple #[DiV (mkD dg0), .int .i64 8])))
/-- what GetPast answers, in one piece -/
def FlP (w w' : World) (Z : List Int) (r : Ending) : Prop := ∃ (p : Pv) (ok : Bool), r = .returned (.tuple #[PV p, .bool ok]) ∧ PSrc w' p ∧ PNew w.heap.size p ∧ Below w.heap.size w w' ∧ (ok = true → InForm p.P ∧ Z = pastB p.P) ∧ (ok = false → ∀ P, InForm P → Z ≠ pastB P)
theorem GqP.flat {r : Ending} (h : GqP w w' Z r) : FlP w w' Z r := by
  obtain ⟨b, h⟩ := h
  rcases h with ⟨p, h1, h2, h3, h4, h5⟩ | ⟨h1, h2⟩
  · exact ⟨p, true, h3, h4, h5, b, fun _ => ⟨h1, h2⟩, fun h => by cases h⟩
  · exact ⟨pv0, false, h2, PSrc.zero _, ⟨fun ad h => (by cases h), fun ad h => by cases h⟩, b, fun h => (by cases h), fun _ => h1⟩
theorem ob_of (h : U.Oc Z) : ∀ x ∈ Z, 0 ≤ x ∧ x ≤ 255 := fun x hx => by
  obtain ⟨t, ht, rfl⟩ := List.getElem_of_mem hx
  have := h t
  rwa [List.getD_eq_getElem?_getD, List.getElem?_eq_getElem ht] at this
theorem pieces {A B : List Int} (hZ : U.Oc Z) (h : U.splA Z = ([A, B], 0)) : Z = U.joinB [A, B] ∧ U.Oc A ∧ U.Oc B ∧ A.length ≤ Z.length ∧ B.length ≤ Z.length := by
  have e := U.join_splA Z hZ (by rw [h])
  rw [h] at e
  have e2 : U.joinB [A, B] = U.numB A.length ++ A ++ (U.numB B.length ++ B) := by simp [U.joinB]
  have e3 : Z = U.numB A.length ++ A ++ (U.numB B.length ++ B) := by rw [← e2]; exact e.symm
  refine ⟨e.symm, oc_of fun x hx => ob_of hZ x ?_, oc_of fun x hx => ob_of hZ x ?_, ?_, ?_⟩
  · rw [e3]; simp [hx]
  · rw [e3]; simp [hx]
  · rw [e3]; simp only [List.length_append]; omega
  · rw [e3]; simp only [List.length_append]; omega
theorem split_dig {H L : Pst} (hH : InForm H) (hL : InForm L) (e : Z = digB H L) : U.splA Z = ([pastB H, pastB L], 0) := by
  rw [e, ← digB_join]
  refine U.splA_join _ (fun Y hY => ?_)
  simp only [List.mem_cons, List.not_mem_nil, or_false] at hY
  have h1 := pastB_len hH
  have h2 := pastB_len hL
  rcases hY with rfl | rfl <;> omega
set_option maxRecDepth 100000 in
set_option maxHeartbeats 3200000 in
theorem rget14_any (ro : Option Addr) (rn rc : Nat) (Z : List Int) (w : World) (S : U.Src w ro rn rc Z) (hcap : rn ≤ rc) (hz : rn ≤ 3000000000) : Calls Tryz.prog 6 #[.slice ro rn rc] w fun r w' => GqD w w' Z r := by
  have b1 := below_new w (.cells #[.slice none 0 0, .slice none 0 0, .slice none 0 0, .slice none 0 0] 27)
  have x1 : DiBox (w.alloc (.cells #[.slice none 0 0, .slice none 0 0, .slice none 0 0, .slice none 0 0] 27)) w.heap.size (mkD dg0) := DiBox_new w (mkD dg0)
  obtain ⟨w1, hw1⟩ : ∃ w1, w.alloc (.cells #[.slice none 0 0, .slice none 0 0, .slice none 0 0, .slice none 0 0] 27) = w1 := ⟨_, rfl⟩
  obtain ⟨g1, hg1⟩ : ∃ g1, w.heap.size = g1 := ⟨_, rfl⟩
  rw [hw1] at b1 x1
  rw [hg1] at x1
  have HC := hide (U.refSplit_any ro rn rc Z w1 (S.below b1) hcap (by omega))
  have HO : Hid (U.Oc Z) := S.2.2.2
  have HZl : Hid (Z.length ≤ 3000000000) := by show _ ≤ _; rw [S.1]; exact hz
  have HM : Hid (DiBox w1 g1 (mkD dg0) ∧ Below w.heap.size w w1 ∧ w.heap.size = g1) := ⟨x1, b1, hg1⟩
  have HBd : Hid (∀ V, Below w.heap.size w V → DiBox V g1 (mkD dg0) → (∀ H L, FormD H L → Z ≠ digB H L) → (stDi (.pointer (some ⟨g1, 0, none⟩)) (.agg #[.slice none 0 0, .slice none 0 0, .slice none 0 0, .slice none 0 0])).run Tryz.prog V = .ok () (V.setRow g1 (DiC (mkD dg0))) ∧ Hid (DiBox (V.setRow g1 (DiC (mkD dg0))) g1 (mkD dg0)) ∧ Hid (GqD w (V.setRow g1 (DiC (mkD dg0))) Z (.returned (.tuple #[DiV (mkD dg0), .int .i64 8])))) := fun V hV hM hno =>
    ⟨run_stDi (m' := mkD dg0) hM, hM.setRow, below_setRow hV (by omega), .inr ⟨hno, rfl⟩⟩
  clear b1 x1 S
  go_enter Tryz.func6, Tryz.ntmps6
  go_wp2_with fail
  clear hw1 hg1
  refine HC.out.mono ?_
  rintro r w2 ⟨lo, ln, lc, rfl, b2, hok, -⟩
  clear HC
  obtain ⟨e, he⟩ : ∃ e, (U.splA Z).2 = e := ⟨_, rfl⟩
  obtain ⟨D, hD⟩ : ∃ D, (U.splA Z).1 = D := ⟨_, rfl⟩
  rw [he] at hok ⊢
  rw [hD] at hok
  have HSp : Hid (U.splA Z = (D, e)) := by show _ = _; rw [← he, ← hD]
  have hB2 : Below w.heap.size w w2 := HM.out.2.1.trans (b2.mono HM.out.2.1.size)
  have hM2 : DiBox w2 g1 (mkD dg0) := HM.out.1.below b2
  have HBad2 := hide (HBd.out w2 hB2 hM2)
  have HB2 := hide hB2
  have HM2 := hide hM2
  clear he hD b2 hB2 hM2
  by_cases h0 : e = 0
  rotate_left
  · have hne : (e != 0) = true := by simpa using h0
    obtain ⟨t8, HX, HE⟩ := HBad2.out (fun H L hF eZ => by
      have h1 := split_dig hF.1 hF.2.1 eZ
      rw [HSp.out] at h1
      exact h0 (by injection h1))
    clear hok h0
    go_wp2_with fail
    refine bodyPost_ret (res2D rfl rfl rfl HX.out) rfl ?_
    exact HE.out
  · subst h0
    have hG := hok rfl
    have hLS := hG.ls
    have hln := hG.len
    by_cases h2 : ln = 2
    rotate_left
    · have hne : ((ln : Int) != 2) = true := by rw [bne_iff_ne]; omega
      obtain ⟨t8, HX, HE⟩ := HBad2.out (fun H L hF eZ => by
        have h1 := split_dig hF.1 hF.2.1 eZ
        rw [HSp.out] at h1
        have h3 : D = [pastB H, pastB L] := by injection h1
        rw [h3] at hln
        exact h2 hln.symm)
      clear hok h2 hG hLS hln
      go_wp2_with fail
      refine bodyPost_ret (res2D rfl rfl rfl HX.out) rfl ?_
      exact HE.out
    · have hne : ((ln : Int) != 2) = false := by rw [bne_eq_false_iff_eq]; omega
      obtain ⟨A, B, rfl⟩ : ∃ A B, D = [A, B] := by
        match D, hln.trans h2 with
        | [A, B], _ => exact ⟨A, B, rfl⟩
      obtain ⟨hZ, hOA, hOB, hlA, hlB⟩ := pieces HO.out HSp.out
      obtain ⟨qq, rfl⟩ : ∃ qq, lo = some ⟨qq, 0, none⟩ := by
        obtain ⟨VV, hRW, -⟩ := hG.row
        rcases hRW.2 with ⟨h1, h3⟩ | ⟨q, cap2, cur, hv, -⟩
        · omega
        · simp only [Value.slice.injEq, true_and] at hv
          exact ⟨q, hv.1⟩
      obtain ⟨ad, ao, an, ac, e1, ca, hA⟩ := hLS.at 0 (by omega)
      obtain ⟨ad', bo, bn, bc, e', cb, hB⟩ := hLS.at 1 (by omega)
      obtain rfl := Option.some.inj e'
      obtain rfl := Option.some.inj e1
      rw [Addr.add_lit] at ca cb
      have hA : U.BS w2 ao an ac A := hA
      have hB : U.BS w2 bo bn bc B := hB
      have HSA : Hid (U.Src w2 ao an ac A) := ⟨hA.len, hA.nil, hA.cell, hOA⟩
      have HSB : Hid (U.Src w2 bo bn bc B) := ⟨hB.len, hB.nil, hB.cell, hOB⟩
      have HCA := hide (rgetPast14_any ao an ac A w2 HSA.out (by have := HZl.out; rw [← hA.len]; omega))
      have HLb : Hid (bn ≤ 3000000000) := by show _ ≤ _; have := HZl.out; rw [← hB.len]; omega
      have HZ : Hid (Z = U.joinB [A, B]) := hZ
      have hl0 : (0 : Int) < (ln : Int) := by omega
      have hl1 : (1 : Int) < (ln : Int) := by omega
      have HLS := hide hLS
      have HLn : Hid (ln = 2) := h2
      clear hok h2 hG hLS hln hA hB hOA hOB hlA hlB hZ e' e1
      go_wp2_with fail
      refine HCA.out.mono ?_
      rintro r w3 hr
      obtain ⟨p, ok, rfl, hp, hpn, b3, y1, n1⟩ := hr.flat
      obtain ⟨g3, hg3⟩ : ∃ g3, w3.heap.size = g3 := ⟨_, rfl⟩
      obtain ⟨w4, hst4, B4, b4, -⟩ := madeP w3 p g3 hg3
      replace hst4 : (stP (.pointer (some ⟨g3, 0, none⟩)) (PV p)).run Tryz.prog (w3.alloc (.cells #[.slice none 0 0, .slice none 0 0] 25)) = .ok () w4 := hst4
      have b24 := b3.trans (b4.mono b3.size)
      have HB4 := hide (HB2.out.trans (b24.mono HB2.out.size))
      have HM4 := hide (HM2.out.below b24)
      have HP4 : Hid (PSrc w4 p ∧ PBox w4 g3 p) := ⟨hp.below b4, B4⟩
      have HN1 : Hid (PNew (g1 + 1) p ∧ g1 < w4.heap.size) := ⟨hpn.mono (by have := HM2.out.lt; omega), by have := HM2.out.lt; have := b24.size; omega⟩
      have HY1 : Hid ((ok = true → InForm p.P ∧ A = pastB p.P) ∧ (ok = false → ∀ P, InForm P → A ≠ pastB P)) := ⟨y1, n1⟩
      have cb4 := (b24.cell (World.block_lt_of_cell? _ _ cb)).trans cb
      have HCB := hide (rgetPast14_any bo bn bc B w4 (HSB.out.below b24) HLb.out)
      clear hr hp hpn y1 n1 b3 b4 b24 B4 ca cb HCA HSA HSB
      go_wp2_with fail
      clear hst4 hg3
      refine HCB.out.mono ?_
      rintro r w5 hr
      obtain ⟨q, too, rfl, hq, hqn, b5, y2, n2⟩ := hr.flat
      obtain ⟨g5, hg5⟩ : ∃ g5, w5.heap.size = g5 := ⟨_, rfl⟩
      obtain ⟨w6, hst6, B6, b6, s6⟩ := madeP w5 q g5 hg5
      replace hst6 : (stP (.pointer (some ⟨g5, 0, none⟩)) (PV q)).run Tryz.prog (w5.alloc (.cells #[.slice none 0 0, .slice none 0 0] 25)) = .ok () w6 := hst6
      have b46 := b5.trans (b6.mono b5.size)
      obtain ⟨g7, hg7⟩ : ∃ g7, w6.heap.size = g7 := ⟨_, rfl⟩
      obtain ⟨w7, hst7, B7, b7, s7⟩ := madeDi w6 (mkD ⟨p, q⟩) g7 hg7
      replace hst7 : (stDi (.pointer (some ⟨g7, 0, none⟩)) (DiV (mkD ⟨p, q⟩))).run Tryz.prog (w6.alloc (.cells #[.slice none 0 0, .slice none 0 0, .slice none 0 0, .slice none 0 0] 27)) = .ok () w7 := hst7
      have l6 := run_ldP (HP4.out.2.below b46).at
      have l7 := run_ldP B6.at
      have l8 := run_ldDi B7
      have b67 := b46.trans (b7.mono b46.size)
      have HB7 := hide (HB4.out.trans (b67.mono HB4.out.size))
      have HM7 := hide (HM4.out.below b67)
      have HX7 := hide B7
      have HS7 : Hid (DgOk w7 ⟨p, q⟩) := ⟨HP4.out.1.below b67, (hq.below b6).below b7⟩
      have HN2 : Hid (PNew (g1 + 1) q) := hqn.mono (by have := HN1.out.2; omega)
      have HY2 : Hid ((too = true → InForm q.P ∧ B = pastB q.P) ∧ (too = false → ∀ P, InForm P → B ≠ pastB P)) := ⟨y2, n2⟩
      clear hr hq hqn y2 n2 b5 b6 b46 b67 B6 b7 cb4 HCB s6 s7 B7
      go_upto_region 7 with fail
      clear hst6 hst7 hg5 hg7 l6 l7
      have HBad7 := hide (HBd.out w7 HB7.out HM7.out)
      cases ok with
      | false =>
        obtain ⟨t8, HX, HE⟩ := HBad7.out (fun H L hF eZ => by
          have h1 := split_dig hF.1 hF.2.1 eZ
          rw [HSp.out] at h1
          have h3 : [A, B] = [pastB H, pastB L] := by injection h1
          exact HY1.out.2 rfl H hF.1 (by injection h3))
        go_wp2_with fail
        refine bodyPost_ret (res2D rfl rfl rfl HX.out) rfl ?_
        exact HE.out
      | true =>
        cases too with
        | false =>
          obtain ⟨t8, HX, HE⟩ := HBad7.out (fun H L hF eZ => by
            have h1 := split_dig hF.1 hF.2.1 eZ
            rw [HSp.out] at h1
            have h3 : [A, B] = [pastB H, pastB L] := by injection h1
            exact HY2.out.2 rfl L hF.2.1 (by injection h3 with _ h4; injection h4))
          go_wp2_with fail
          refine bodyPost_ret (res2D rfl rfl rfl HX.out) rfl ?_
          exact HE.out
        | true =>
          have HI1 : Hid (InForm p.P ∧ A = pastB p.P) := HY1.out.1 rfl
          have HI2 : Hid (InForm q.P ∧ B = pastB q.P) := HY2.out.1 rfl
          go_wp2_with fail
          refine (rinForm14_any ⟨p, q⟩ _ HS7.out).mono ?_
          rintro r w8 ⟨f, rfl, hf, b8⟩
          have HF : Hid (BIf f (FormD p.P q.P)) := hf
          have HZe : Hid (Z = digB p.P q.P) := by
            show _ = _
            rw [← digB_join, ← HI1.out.2, ← HI2.out.2]
            exact HZ.out
          have HB8 := hide (HB7.out.trans (b8.mono HB7.out.size))
          have HM8 := hide (HM7.out.below b8)
          have HX8 := hide (HX7.out.below b8)
          have HS8 := hide (HS7.out.below b8)
          clear hf b8 l8
          cases f with
          | false =>
            obtain ⟨t8, HX, HE⟩ := HBd.out w8 HB8.out HM8.out (fun H L hF eZ => by
              have h4 := dig_cut (R := []) hF.1 HI1.out.1 hF.2.1 HI2.out.1 (by rw [← eZ, HZe.out, List.append_nil]; rfl)
              obtain ⟨rfl, rfl, -⟩ := h4
              have := HF.out.2 hF
              cases this)
            go_wp2_with fail
            refine bodyPost_ret (res2D rfl rfl rfl HX.out) rfl ?_
            exact HE.out
          | true =>
            have t8 := run_stDi (m' := mkD ⟨p, q⟩) HM8.out
            have l8 := run_ldDi HX8.out
            have HX : Hid (DiBox (w8.setRow g1 (DiC (mkD ⟨p, q⟩))) g1 (mkD ⟨p, q⟩)) := HM8.out.setRow
            have HE : Hid (GqD w (w8.setRow g1 (DiC (mkD ⟨p, q⟩))) Z (.returned (.tuple #[DiV (mkD ⟨p, q⟩), .int .i64 0]))) := by
              refine ⟨below_setRow HB8.out (by have := HM.out.2.2; omega), .inl ⟨⟨p, q⟩, HF.out.1 rfl, HZe.out, rfl, ?_⟩⟩
              have o1 : ∀ (P : Pv), PNew (g1 + 1) P → PSrc w8 P → PSrc (w8.setRow g1 (DiC (mkD ⟨p, q⟩))) P := fun P hn hs => psrc_off hs (fun ad h => setRow_other _ _ _ _ (by have := hn.1 ad h; omega)) (fun ad h => setRow_other _ _ _ _ (by have := hn.2 ad h; omega))
              exact ⟨o1 p HN1.out.1 HS8.out.1, o1 q HN2.out HS8.out.2⟩
            go_wp2_with fail
            refine bodyPost_ret (res2D rfl rfl rfl HX.out) rfl ?_
            exact HE.out
end Go.Proofs.YtbmjiedpaffifaaGreat
namespace Go.Proofs.YtbmjiedpaffifaaGreat
open Go.RowKit
attribute [local go_sem ↓] ldDi_eq stDi_eq ldP_eq stP_eq
attribute [local go_sem] cells_DiV DiC_size cells_PV PC_size
set_option maxRecDepth 100000 in
theorem rput14_any (d : Dg) (w : World) (hS : DgOk w d) : Calls Tryz.prog 5 #[DiV (mkD d)] w fun e w' => PutD w w' e d.h.P d.l.P := by
  have HX := hide (DiBox_new w (mkD d))
  have HB := hide (below_new w (.cells (DiC (mkD d)) 27))
  have HS := hide (hS.below HB.out)
  clear hS
  obtain ⟨wk, hwk⟩ : ∃ wk, w.alloc (.cells (DiC (mkD d)) 27) = wk := ⟨_, rfl⟩
  obtain ⟨G, hG⟩ : ∃ G, w.heap.size = G := ⟨_, rfl⟩
  rw [hwk] at HX HB HS
  rw [hG] at HX
  have l1 := run_ldDi HX.out
  go_enter Tryz.func5, Tryz.ntmps5
  go_wp2_with fail
  clear hwk hG
  refine (rinForm14_any d _ HS.out).mono ?_
  rintro e w2 ⟨x, rfl, hx, b2⟩
  have HB2 := hide (HB.out.trans (b2.mono HB.out.size))
  have HX2 := hide (HX.out.below b2)
  have HS2 := hide (HS.out.below b2)
  clear b2 l1 HX HB HS
  cases x with
  | false =>
    have HF : Hid (PutD w w2 (.returned (.tuple #[.slice none 0 0, .int .i64 1])) d.h.P d.l.P) := .inl ⟨fun h => (by have := hx.2 h; cases this), rfl, HB2.out⟩
    clear hx
    go_wp2_with fail
    go_ret2
    exact HF.out
  | true =>
    have HY := hide (hx.1 rfl)
    clear hx
    go_upto_region 3 with fail
    refine wp_region_held_drew (S := fun wx => (ldP (.pointer (some ⟨G, 0, none⟩))).run Tryz.prog wx = .ok (PV d.h) wx ∧ (ldP (.pointer (some ⟨G, 2, none⟩))).run Tryz.prog wx = .ok (PV d.l) wx) (by kernel_rfl) (⟨run_ldP (HX2.out.below (below_drew1 w2)).heard, run_ldP (HX2.out.below (below_drew1 w2)).live⟩) (fun hHeld => ?_)
    refine wpAnyH_take (i := 0) (oi := { dst := some 7, op := Op.fieldAddr 27 (Operand.tmp 1) 0, type := 0, pos := "ref.go:123", after := #[], guard := none }) (v := ?_) rfl (by kernel_rfl) (by kernel_rfl) (by kernel_rfl) (fun _ _ _ h => h) (Or.inl ⟨by rfl, ?_⟩) (by assumption) ?_
    rotate_left
    · (intro w hSw; (try dsimp only at hSw); go_simp); first | done | with_reducible rfl
    simp only [Act.put, List.setIfInBounds_toArray, List.set_cons_zero, List.set_cons_succ]
    refine wpAnyH_take (i := 1) (oi := { dst := some 8, op := Op.load 25 (Operand.tmp 7), type := 25, pos := "ref.go:123", after := #[{ on := 0, ground := Ground.data }], guard := none }) (v := ?_) rfl (by kernel_rfl) (by kernel_rfl) (by kernel_rfl) (fun _ _ _ h => h) (Or.inl ⟨by rfl, ?_⟩) (by assumption) ?_
    rotate_left
    · (intro w hSw; (try dsimp only at hSw); go_simp); first | done | with_reducible rfl
    simp only [Act.put, List.setIfInBounds_toArray, List.set_cons_zero, List.set_cons_succ]
    refine wpAnyH_take (i := 3) (oi := { dst := some 10, op := Op.fieldAddr 27 (Operand.tmp 1) 1, type := 0, pos := "ref.go:123", after := #[], guard := none }) (v := ?_) rfl (by kernel_rfl) (by kernel_rfl) (by kernel_rfl) (fun _ _ _ h => h) (Or.inl ⟨by rfl, ?_⟩) (by assumption) ?_
    rotate_left
    · (intro w hSw; (try dsimp only at hSw); go_simp); first | done | with_reducible rfl
    simp only [Act.put, List.setIfInBounds_toArray, List.set_cons_zero, List.set_cons_succ]
    refine wpAnyH_take (i := 4) (oi := { dst := some 11, op := Op.load 25 (Operand.tmp 10), type := 25, pos := "ref.go:123", after := #[{ on := 3, ground := Ground.data }], guard := none }) (v := ?_) rfl (by kernel_rfl) (by kernel_rfl) (by kernel_rfl) (fun _ _ _ h => h) (Or.inl ⟨by rfl, ?_⟩) (by assumption) ?_
    rotate_left
    · (intro w hSw; (try dsimp only at hSw); go_simp); first | done | with_reducible rfl
    simp only [Act.put, List.setIfInBounds_toArray, List.set_cons_zero, List.set_cons_succ]
    refine wpAnyH_ready (rs := [2]) (by kernel_rfl) (by simp) ?_
    refine AllReadyH.cons rfl (fun K hK => ?_) ?_
    rotate_left
    · exact AllReadyH.nil
    go_simp
    go_wp2_with fail
    refine (rputPast14_any d.h _ (HS2.out.1.below (below_drew1 w2)) HY.out.1).mono ?_
    rintro e w3 ⟨bo3, n3, cc3, rfl, hW3⟩
    have hB3 : Below w2.heap.size w2 w3 := (below_drew1 w2).trans hW3.nw.1
    have HB3 := hide hB3
    have HR3 := hide hW3.r.bs
    refine hK.out _ _ (⟨run_ldP (HX2.out.below (hB3)).heard, run_ldP (HX2.out.below (hB3)).live⟩) (fun hHeld => ?_)
    clear hK K hB3 hW3
    refine wpAnyH_ready (rs := [5]) (by kernel_rfl) (by simp) ?_
    refine AllReadyH.cons rfl (fun K hK => ?_) ?_
    rotate_left
    · exact AllReadyH.nil
    go_simp
    go_wp2_with fail
    refine (rputPast14_any d.l _ (HS2.out.2.below HB3.out) HY.out.2.1).mono ?_
    rintro e w4 ⟨bo4, n4, cc4, rfl, hW4⟩
    have hB4 : Below w2.heap.size w2 w4 := HB3.out.trans (hW4.nw.1.mono HB3.out.size)
    have HB4 := hide hB4
    have HR34 := hide (HR3.out.below hW4.nw.1)
    have HR4 := hide hW4.r.bs
    refine hK.out _ _ (⟨run_ldP (HX2.out.below (hB4)).heard, run_ldP (HX2.out.below (hB4)).live⟩) (fun hHeld => ?_)
    clear hK K hB4 hW4 HR3
    have HL := hide (ls_two HR34.out HR4.out)
    have HBL := hide (HB4.out.trans ((below_new w4 (.cells #[.slice bo3 n3 cc3, .slice bo4 n4 cc4] 28)).mono HB4.out.size))
    have HLn : Hid ((U.joinB [pastB d.h.P, pastB d.l.P]).length ≤ 140737488355000) := by
      show _ ≤ _
      rw [digB_join]
      have h1 := frB_len HY.out.1
      have h2 := frB_len HY.out.2.1
      unfold digB
      rw [List.length_append]
      omega
    refine wpAnyH_ready (rs := [6]) (by kernel_rfl) (by simp) ?_
    refine AllReadyH.cons rfl (fun K hK => ?_) ?_
    rotate_left
    · exact AllReadyH.nil
    go_simp
    go_wp2_with fail
    refine hK.out _ _ (⟨run_ldP (HX2.out.below (HBL.out)).heard, run_ldP (HX2.out.below (HBL.out)).live⟩) (fun hHeld => ?_)
    clear hK K
    refine wpAnyH_ready (rs := [7]) (by kernel_rfl) (by simp) ?_
    refine AllReadyH.cons rfl (fun K hK => ?_) ?_
    rotate_left
    · exact AllReadyH.nil
    go_simp
    go_wp2_with fail
    refine (U.rJoin_any _ 2 2 _ _ HL.out (by decide) HLn.out).mono ?_
    rintro e w5 ⟨bo5, l5, cc5, rfl, hR5, hN5⟩
    have HF : Hid (PutD w w5 (.returned (.tuple #[.slice bo5 l5 cc5, .int .i64 0])) d.h.P d.l.P) := by
      have e5 := hR5.len
      rw [digB_join] at e5 hR5
      subst e5
      exact .inr ⟨HY.out, bo5, cc5, rfl, hR5, hN5.pre (HB2.out.trans (HBL.out.mono HB2.out.size))⟩
    refine hK.out _ _ (⟨run_ldP (HX2.out.below (HBL.out.trans (hN5.1.mono HBL.out.size))).heard, run_ldP (HX2.out.below (HBL.out.trans (hN5.1.mono HBL.out.size))).live⟩) (fun hHeld => ?_)
    clear hK K hR5 hN5 HL
    refine wpAnyH_take (i := 8) (oi := { dst := some 2, op := Op.assign (Operand.tmp 14), type := 28, pos := "ref.go:123", after := #[{ on := 7, ground := Ground.data }, { on := 7, ground := Ground.chain }, { on := 0, ground := Ground.phase }, { on := 1, ground := Ground.phase }, { on := 2, ground := Ground.phase }, { on := 3, ground := Ground.phase }, { on := 4, ground := Ground.phase }, { on := 5, ground := Ground.phase }, { on := 6, ground := Ground.phase }, { on := 7, ground := Ground.phase }], guard := none }) (v := ?_) rfl (by kernel_rfl) (by kernel_rfl) (by kernel_rfl) (fun _ _ _ h => h) (Or.inl ⟨by rfl, ?_⟩) (by assumption) ?_
    rotate_left
    · (intro w hSw; (try dsimp only at hSw); go_simp); first | done | with_reducible rfl
    simp only [Act.put, List.setIfInBounds_toArray, List.set_cons_zero, List.set_cons_succ]
    refine wpAnyH_take (i := 9) (oi := { dst := some 3, op := Op.assign (Operand.const (Value.int IntKind.i64 0)), type := 29, pos := "ref.go:123", after := #[{ on := 8, ground := Ground.chain }, { on := 0, ground := Ground.phase }, { on := 1, ground := Ground.phase }, { on := 2, ground := Ground.phase }, { on := 3, ground := Ground.phase }, { on := 4, ground := Ground.phase }, { on := 5, ground := Ground.phase }, { on := 6, ground := Ground.phase }, { on := 7, ground := Ground.phase }, { on := 8, ground := Ground.phase }], guard := none }) (v := ?_) rfl (by kernel_rfl) (by kernel_rfl) (by kernel_rfl) (fun _ _ _ h => h) (Or.inl ⟨by rfl, ?_⟩) (by assumption) ?_
    rotate_left
    · (intro w hSw; (try dsimp only at hSw); go_simp); first | done | with_reducible rfl
    simp only [Act.put, List.setIfInBounds_toArray, List.set_cons_zero, List.set_cons_succ]
    refine wpAnyH_done (by kernel_rfl) ?_ _
    clear hHeld
    go_wp2_with fail
    go_ret2
    exact HF.out
end Go.Proofs.YtbmjiedpaffifaaGreat
