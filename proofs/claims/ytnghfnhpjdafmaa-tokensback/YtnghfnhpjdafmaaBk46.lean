/- FSl FTg -/
import Derived.Test.YtnghfnhpjdafmaaBk41
import Derived.Test.YtnghfnhpjdafmaaBk45
import Derived.Test.YtnghfnhpjdafmaaBk31
namespace Go.Proofs.Ytnghfnhpjdafmaa
open Go.RowKit

theorem ckF_lt : ∀ (B : List Int) (r : Nat), r < 37 → ckF r B < 37
  | [], r, h => h
  | c :: t, r, _ => ckF_lt t _ (Nat.mod_lt _ (by decide))
theorem ck_inj : ∀ (B : List Int) (r r' : Nat), r < 37 → r' < 37 → ckF r B = ckF r' B → r = r'
  | [], _, _, _, _, h => h
  | c :: t, r, r', h, h', e => by
    have := ck_inj t _ _ (Nat.mod_lt _ (by decide)) (Nat.mod_lt _ (by decide)) e
    omega
theorem ck_one : ∀ (B : List Int) (k r : Nat) (x : Int), r < 37 → k < B.length → ckF r (B.set k x) = ckF r B → (valF x).toNat % 37 = (valF (B.getD k 0)).toNat % 37
  | [], k, _, _, _, hk, _ => absurd hk (Nat.not_lt_zero k)
  | c :: t, 0, r, x, hr, _, e => by
    have := ck_inj t _ _ (Nat.mod_lt _ (by decide)) (Nat.mod_lt _ (by decide)) e
    show _ = (valF c).toNat % 37
    omega
  | c :: t, k + 1, r, x, hr, hk, e => ck_one t k _ x (Nat.mod_lt _ (by decide)) (Nat.lt_of_succ_lt_succ hk) e
theorem ck_two : ∀ (B : List Int) (k r : Nat), r < 37 → k + 1 < B.length → ckF r ((B.set k (B.getD (k + 1) 0)).set (k + 1) (B.getD k 0)) = ckF r B → (valF (B.getD k 0)).toNat % 37 = (valF (B.getD (k + 1) 0)).toNat % 37
  | [], k, _, _, hk, _ => absurd hk (Nat.not_lt_zero _)
  | [c], k, _, _, hk, _ => by simp at hk
  | c :: d :: t, 0, r, hr, _, e => by
    have := ck_inj t _ _ (Nat.mod_lt _ (by decide)) (Nat.mod_lt _ (by decide)) e
    show (valF c).toNat % 37 = (valF d).toNat % 37
    simp only [List.getD_cons_zero, List.getD_cons_succ] at this
    omega
  | c :: d :: t, k + 1, r, hr, hk, e => ck_two (d :: t) k _ (Nat.mod_lt _ (by decide)) (Nat.lt_of_succ_lt_succ hk) e
theorem ch37_inj : ∀ a, a < 37 → ∀ b, b < 37 → ch37 a = ch37 b → a = b := by decide +kernel
/-- a letter's value says it -/
theorem let_eq {x y : Int} (hx : ∃ v, v < 32 ∧ x = lt32 v) (hy : ∃ v, v < 32 ∧ y = lt32 v) (h : (valF x).toNat % 37 = (valF y).toNat % 37) : x = y := by
  obtain ⟨v, hv, rfl⟩ := hx
  obtain ⟨u, hu, rfl⟩ := hy
  rw [valF_lt32 v hv, valF_lt32 u hu, Int.toNat_natCast, Int.toNat_natCast] at h
  rw [show v = u by omega]
theorem mem_getD {L : List Int} {k : Nat} (h : k < L.length) : L.getD k 0 ∈ L := by
  rw [List.getD_eq_getElem?_getD, List.getElem?_eq_getElem h]
  exact List.getElem_mem h
theorem textL_len (c : Int) (P : Pst) : (textL c P).length = (bodyF c P).length + 1 := by simp [textL]
theorem textL_at {c : Int} {P : Pst} {k : Nat} (h : k < (bodyF c P).length) : (textL c P).getD k 0 = (bodyF c P).getD k 0 := by
  unfold textL
  rw [List.getD_eq_getElem?_getD, List.getD_eq_getElem?_getD, List.getElem?_append_left h]
theorem slip1 {c c' : Int} {P P' : Pst} {k : Nat} {x : Int} (hk : k < (textL c P).length) (h : textL c' P' = (textL c P).set k x) : x = (textL c P).getD k 0 := by
  have hl := textL_len c P
  by_cases h1 : k < (bodyF c P).length
  · rw [textL_at h1]
    have e : (textL c P).set k x = (bodyF c P).set k x ++ [ch37 (ckF 0 (bodyF c P))] := by unfold textL; rw [List.set_append_left _ _ h1]
    rw [e] at h
    obtain ⟨e1, e2⟩ := List.append_inj' (show bodyF c' P' ++ [ch37 (ckF 0 (bodyF c' P'))] = _ from h) rfl
    have e3 := ch37_inj _ (ckF_lt _ 0 (by decide)) _ (ckF_lt _ 0 (by decide)) (List.cons.inj e2).1
    rw [e1] at e3
    refine let_eq ?_ ((bodyF_is c P).1 _ (mem_getD h1)) (ck_one _ k 0 x (by decide) h1 e3)
    refine (bodyF_is c' P').1 _ ?_
    rw [e1]
    exact List.mem_set h1 x
  · have h2 : k = (bodyF c P).length := by omega
    have e : (textL c P).set k x = bodyF c P ++ [x] := by unfold textL; rw [List.set_append_right _ _ (by omega), h2, Nat.sub_self]; rfl
    rw [e] at h
    obtain ⟨e1, e2⟩ := List.append_inj' (show bodyF c' P' ++ [ch37 (ckF 0 (bodyF c' P'))] = _ from h) rfl
    have e3 := (List.cons.inj e2).1
    rw [e1] at e3
    rw [← e3]
    unfold textL
    rw [List.getD_eq_getElem?_getD, List.getElem?_append_right (by omega), h2, Nat.sub_self]
    rfl
theorem slip2 {c c' : Int} {P P' : Pst} {k : Nat} (hk : k + 2 < (textL c P).length) (h : textL c' P' = ((textL c P).set k ((textL c P).getD (k + 1) 0)).set (k + 1) ((textL c P).getD k 0)) : (textL c P).getD k 0 = (textL c P).getD (k + 1) 0 := by
  have hl := textL_len c P
  have h1 : k + 1 < (bodyF c P).length := by omega
  have h0 : k < (bodyF c P).length := by omega
  rw [textL_at h1, textL_at h0] at h ⊢
  have e : ((textL c P).set k ((bodyF c P).getD (k + 1) 0)).set (k + 1) ((bodyF c P).getD k 0) = ((bodyF c P).set k ((bodyF c P).getD (k + 1) 0)).set (k + 1) ((bodyF c P).getD k 0) ++ [ch37 (ckF 0 (bodyF c P))] := by
    unfold textL
    rw [List.set_append_left _ _ h0, List.set_append_left _ _ (by rw [List.length_set]; exact h1)]
  rw [e] at h
  obtain ⟨e1, e2⟩ := List.append_inj' (show bodyF c' P' ++ [ch37 (ckF 0 (bodyF c' P'))] = _ from h) rfl
  have e3 := ch37_inj _ (ckF_lt _ 0 (by decide)) _ (ckF_lt _ 0 (by decide)) (List.cons.inj e2).1
  rw [e1] at e3
  exact let_eq ((bodyF_is c P).1 _ (mem_getD h0)) ((bodyF_is c P).1 _ (mem_getD h1)) (ck_two _ k 0 (by decide) h1 e3)
/-- a token's bytes say it -/
theorem tokB_inj {c c' : Int} {P P' : Pst} (h : TokOk c P) (h' : TokOk c' P') (e : tokB c P = tokB c' P') : c = c' ∧ P = P' := by
  have b : ∀ {c P}, TokOk c P → 0 ≤ c ∧ c < 64 := fun h => by have := h.1; simp [isC] at this; exact this
  have b1 := b h
  have b2 := b h'
  have q : U.pNum 64 (tokB c P) = some (c.toNat, pastB P) := U.pNum_to _ (by omega) (by omega)
  have q' : U.pNum 64 (tokB c' P') = some (c'.toNat, pastB P') := U.pNum_to _ (by omega) (by omega)
  rw [e, q'] at q
  simp only [Option.some.injEq, Prod.mk.injEq] at q
  refine ⟨by omega, ?_⟩
  have r := rdPast_to h.2 []
  have r' := rdPast_to h'.2 []
  rw [q.2, r] at r'
  simp only [Option.some.injEq, Prod.mk.injEq, and_true] at r'
  exact r'
theorem textL_inj {c c' : Int} {P P' : Pst} (h : TokOk c P) (h' : TokOk c' P') (e : textL c P = textL c' P') : c = c' ∧ P = P' := by
  obtain ⟨e1, -⟩ := List.append_inj' (show bodyF c P ++ [ch37 (ckF 0 (bodyF c P))] = bodyF c' P' ++ [ch37 (ckF 0 (bodyF c' P'))] from e) rfl
  have u := (un_all _ (tokB_ob c P)).1
  have u' := (un_all _ (tokB_ob c' P')).1
  rw [show spellF 0 0 (tokB c P) = bodyF c P from rfl, e1] at u
  rw [show spellF 0 0 (tokB c' P') = bodyF c' P' from rfl, u] at u'
  exact tokB_inj h h' (Option.some.inj u')
/-- no token's bytes are the beginning of another's -/
theorem tokB_pre {c c' : Int} {P P' : Pst} {R : List Int} (h : TokOk c P) (h' : TokOk c' P') (e : tokB c P = tokB c' P' ++ R) : R = [] := by
  have b : ∀ {c P}, TokOk c P → 0 ≤ c ∧ c < 64 := fun h => by have := h.1; simp [isC] at this; exact this
  have b1 := b h
  have b2 := b h'
  have q : U.pNum 64 (tokB c P) = some (c.toNat, pastB P) := U.pNum_to _ (by omega) (by omega)
  have q' : U.pNum 64 (tokB c' P' ++ R) = some (c'.toNat, pastB P' ++ R) := by unfold tokB; rw [List.append_assoc]; exact U.pNum_to _ (by omega) (by omega)
  rw [e, q'] at q
  simp only [Option.some.injEq, Prod.mk.injEq] at q
  have r := rdPast_to h.2 []
  have r' := rdPast_to h'.2 R
  rw [q.2, ← List.append_nil (pastB P), r] at r'
  simp only [Option.some.injEq, Prod.mk.injEq] at r'
  exact r'.2.symm
end Go.Proofs.Ytnghfnhpjdafmaa
namespace Go.Proofs.Ytnghfnhpjdafmaa
open Go.RowKit
attribute [local go_sem ↓] ldP_eq stP_eq ldTo_eq stTo_eq
attribute [local go_sem] zero_PC cells_PV PC_size cells_ToV ToC_size
variable {w w' w2 W W' : World} {g gv gr : Nat} {Z : List Int}

theorem numA_cases (hO : U.Oc Z) : (∃ e, e ≠ 0 ∧ U.numA Z 0 = (0, 0, e) ∧ ∀ (v : Nat) (R : List Int), v ≤ 9223372036854775807 → Z ≠ U.numB v ++ R) ∨ ∃ v k : Nat, U.numA Z 0 = ((v : Int), (k : Int), 0) ∧ Z = U.numB v ++ Z.drop k ∧ 0 < k ∧ k ≤ Z.length ∧ v ≤ 9223372036854775807 := by
  have e0 : U.numA Z 0 = if (U.rdN Z 0).2.2 = 0 then ((U.rdN Z 0).1, 0 + (U.rdN Z 0).2.1, 0) else (0, 0, (U.rdN Z 0).2.2) := by
    unfold U.numA
    rw [if_neg (by omega)]
    rfl
  by_cases h : (U.rdN Z 0).2.2 = 0
  · right
    have hle := U.nmV_le Z
    have hm : U.nmE Z 9223372036854775807 = 0 := by
      unfold U.nmE
      rw [if_neg (by simpa using h), if_neg (by unfold U.nmV at hle; omega)]
    obtain ⟨h1, -, h3, h4⟩ := U.nm_ok hm
    have hp : U.pNum 9223372036854775807 Z = some (U.nmV Z, Z.drop (U.nmK Z)) := by unfold U.pNum; rw [if_pos hm]
    refine ⟨U.nmV Z, U.nmK Z, ?_, (U.pNum_of hO hp).1, h4, h3, hle⟩
    rw [e0, if_pos h, h1]
    simp
  · left
    refine ⟨_, h, by rw [e0, if_neg h], fun v R hv e => ?_⟩
    rw [e, U.rdN_numB v R hv] at h
    exact h rfl
/-- what tokens.Get answers -/
def GtT (w w' : World) (Z : List Int) (r : Ending) : Prop := Below w.heap.size w w' ∧
  ((∃ c p, TokOk c p.P ∧ Z = tokB c p.P ∧ r = .returned (.tuple #[ToV (mkT c p), .int .i64 0]) ∧ PN w.heap.size w' p) ∨
    ((∀ c P, TokOk c P → Z ≠ tokB c P) ∧ r = .returned (.tuple #[ToV to0, .int .i64 8])))
theorem res2To {fn : Func} {p q : Tmp} {m : TokV} {v : Value} (h : fn.results = #[.cell p 52, .tmp q]) {tmps : Array Value} (hp : tmps.getD p undef = .pointer (some ⟨g, 0, none⟩)) (hq : tmps.getD q undef = v) (A : ToBox w g m) :
    (results fn tmps).run Try.prog w = .ok (.tuple #[ToV m, v]) w := by
  have hl := run_lvTo A
  simp only [results, h]
  rw [Array.getD_eq_getD_getElem?] at hp hq
  simp [hp, hq, asAddr, hl]
theorem zero_ToC : (#[.int .i64 0, .slice none 0 0, .slice none 0 0] : Array Value) = ToC to0 := rfl
attribute [local go_sem] zero_ToC
def bldT (a : Array (Nat × Value)) : Sem Value := Instr.build 52 a
theorem bldT_eq (a : Array (Nat × Value)) : Instr.build 52 a = bldT a := rfl
theorem run_bldT (c : Int) (p : Pv) (w : World) : (bldT #[(0, .int .i64 c), (1, .agg (PC p))]).run Try.prog w = .ok (ToV (mkT c p)) w := by kernel_rfl
theorem run_bldT0 (w : World) : (bldT #[]).run Try.prog w = .ok (ToV to0) w := by kernel_rfl
theorem run_bldT1 (c : Int) (w : World) : (bldT #[(0, .int .i64 c)]).run Try.prog w = .ok (ToV (mkT c pv0)) w := by kernel_rfl
attribute [local go_sem ↓] bldT_eq run_bldT run_bldT0
theorem isC_nat (v : Nat) : isC (v : Int) = decide (v < 64) := by
  unfold isC
  rw [decide_eq_true (show 0 ≤ (v : Int) by omega), Bool.true_and]
  congr 1
  simp; omega
theorem tok_bd {c : Int} {P : Pst} (h : TokOk c P) : 0 ≤ c ∧ c < 64 := by have := h.1; simp [isC] at this; exact this
set_option maxRecDepth 100000 in
set_option maxHeartbeats 4000000 in
theorem tokGet_any (ro : Option Addr) (rn rc : Nat) (Z : List Int) (w : World) (S : U.Src w ro rn rc Z) (hcap : rn ≤ rc) (hz : rn ≤ 140737488355328) : Calls Try.prog 38 #[.slice ro rn rc] w fun r w' => GtT w w' Z r := by
  have b1 := below_new w (.cells (ToC to0) 52)
  have x1 := ToBox_new w to0
  have s1 := World.size_alloc w (.cells (ToC to0) 52)
  obtain ⟨w1, hw1⟩ : ∃ w1, w.alloc (.cells (ToC to0) 52) = w1 := ⟨_, rfl⟩
  obtain ⟨g1, hg1⟩ : ∃ g1, w.heap.size = g1 := ⟨_, rfl⟩
  rw [hw1] at b1 x1 s1
  rw [hg1] at x1
  have HX := hide x1
  have HB : Hid (Below w.heap.size w w1 ∧ w.heap.size = g1) := ⟨b1, hg1⟩
  have HN := hide (U.num_any ro rn rc Z 0 w1 (S.below b1) hcap (by omega))
  have HF : Hid (∀ w3, Below w1.heap.size w1 w3 → (∀ c P, TokOk c P → Z ≠ tokB c P) → GtT w (w3.setRow g1 (ToC to0)) Z (.returned (.tuple #[ToV to0, .int .i64 8])) ∧ ToBox (w3.setRow g1 (ToC to0)) g1 to0) := fun w3 b3 h3 => ⟨⟨below_setRow (HB.out.1.trans (b3.mono HB.out.1.size)) (by have := HB.out.2; omega), .inr ⟨h3, rfl⟩⟩, (HX.out.below b3).setRow⟩
  have t1 := run_stTo (m' := to0) HX.out
  have hO : U.Oc Z := S.2.2.2
  have hl := S.1
  rcases numA_cases hO with ⟨e, he, hA, hne⟩ | ⟨v, k, hA, hZ, hk0, hkl, hv⟩
  · rw [hA] at HN
    have hbad := HF.out w1 (Below.refl _ _) (fun c P h e => by
      have hc := tok_bd h
      exact hne c.toNat (pastB P) (by omega) e)
    have HE := hide hbad
    have hee : (e != 0) = true := by simpa using he
    clear S hcap hz b1 x1 s1 hO hne hA hbad he hl HF
    go_enter Try.func38, Try.ntmps38
    go_wp2_with fail
    clear hw1 hg1
    refine HN.out.mono ?_
    rintro r w2 ⟨rfl, rfl⟩
    unfold U.p3
    go_wp2_with fail
    refine bodyPost_ret (res2To rfl rfl rfl HE.out.2) rfl ?_
    exact HE.out.1
  · rw [hA] at HN
    have hsub := S.sub k (by omega) hcap
    by_cases h64 : v < 64
    · have hc : isC (v : Int) = true := by rw [isC_nat]; simpa using h64
      have HI := hide (isCart_any (v : Int) w1)
      rw [hc] at HI
      obtain ⟨ao', cap', hcases, S', hle⟩ := hsub
      have HG := hide (getPast_any ao' (rn - k) cap' (Z.drop k) w1 (S'.below b1) hle (by omega))
      have HZ : Hid (Z = U.numB v ++ Z.drop k ∧ isC (v : Int) = true ∧ v < 64) := ⟨hZ, hc, h64⟩
      have hkn : k ≤ rn := by omega
      have hnil := S.2.1
      clear S hcap hz x1 s1 hO hZ hA hl hc S' hle
      rcases hcases with ⟨rfl, rfl, rfl⟩ | ⟨ad, rfl, rfl, rfl, rfl⟩ | ⟨ad, rfl, hne, rfl, rfl⟩
      · have := hnil rfl
        omega
      · clear hnil
        go_enter Try.func38, Try.ntmps38
        go_wp2_with fail
        clear hw1 hg1
        refine HN.out.mono ?_
        rintro r w2 ⟨rfl, rfl⟩
        unfold U.p3
        go_wp2_with fail
        refine HI.out.mono ?_
        rintro r w2 ⟨rfl, rfl⟩
        go_wp2_with fail
        refine HG.out.mono ?_
        rintro r w3 ⟨b3, h⟩
        obtain ⟨g7, hg7⟩ : ∃ g7, w3.heap.size = g7 := ⟨_, rfl⟩
        rcases h with ⟨p, hI, hZp, rfl, hN⟩ | ⟨hn, rfl⟩
        · obtain ⟨w4, hr4, B4, b4, s4⟩ := madeP w3 p g7 hg7
          have l4 := run_ldP B4.at
          have t4 := run_stTo (m' := mkT (v : Int) p) ((HX.out.below b3).below b4)
          have HE : Hid (GtT w (w4.setRow g1 (ToC (mkT (v : Int) p))) Z (.returned (.tuple #[ToV (mkT (v : Int) p), .int .i64 0])) ∧ ToBox (w4.setRow g1 (ToC (mkT (v : Int) p))) g1 (mkT (v : Int) p)) := by
            have h1 := HB.out.2
            have h2 := HX.out.lt
            have h3 := HB.out.1.size
            have hb : Below w.heap.size w w4 := HB.out.1.trans ((b3.trans (b4.mono b3.size)).mono HB.out.1.size)
            refine ⟨⟨below_setRow hb (by omega), .inl ⟨v, p, ⟨HZ.out.2.1, hI⟩, ?_, rfl, ((hN.below b4).keep (fun k h1 h2 => setRow_other _ _ _ _ (by omega))).mono (by omega)⟩⟩, ((HX.out.below b3).below b4).setRow⟩
            rw [HZ.out.1, hZp]
            unfold tokB nB
            rw [Int.toNat_natCast]
          clear hI hZp hN b3 b4 s4 HF
          go_wp2_with fail
          refine bodyPost_ret (res2To rfl rfl rfl HE.out.2) rfl ?_
          exact HE.out.1
        · obtain ⟨w4, hr4, B4, b4, s4⟩ := madeP w3 pv0 g7 hg7
          have l4 := run_ldP B4.at
          have t4 := run_stTo (m' := to0) ((HX.out.below b3).below b4)
          have HE := hide (HF.out w4 (b3.trans (b4.mono b3.size)) (fun c P h e => by
            have hc := tok_bd h
            have e1 : U.pNum 9223372036854775807 Z = some (c.toNat, pastB P) := by rw [e]; exact U.pNum_to _ (by omega) (by omega)
            have e2 : U.pNum 9223372036854775807 Z = some (v, Z.drop rc) := by have h := U.pNum_to (most := 9223372036854775807) (v := v) (Z.drop rc) (by have := HZ.out.2.2; omega) (by have := HZ.out.2.2; omega); rw [← HZ.out.1] at h; exact h
            rw [e1] at e2
            simp only [Option.some.injEq, Prod.mk.injEq] at e2
            exact hn P h.2 e2.2.symm))
          clear hn b3 b4 s4 HF
          go_wp2_with fail
          refine bodyPost_ret (res2To rfl rfl rfl HE.out.2) rfl ?_
          exact HE.out.1
      · clear hnil
        go_enter Try.func38, Try.ntmps38
        go_wp2_with fail
        clear hw1 hg1
        refine HN.out.mono ?_
        rintro r w2 ⟨rfl, rfl⟩
        unfold U.p3
        go_wp2_with fail
        refine HI.out.mono ?_
        rintro r w2 ⟨rfl, rfl⟩
        go_wp2_with fail
        refine HG.out.mono ?_
        rintro r w3 ⟨b3, h⟩
        obtain ⟨g7, hg7⟩ : ∃ g7, w3.heap.size = g7 := ⟨_, rfl⟩
        rcases h with ⟨p, hI, hZp, rfl, hN⟩ | ⟨hn, rfl⟩
        · obtain ⟨w4, hr4, B4, b4, s4⟩ := madeP w3 p g7 hg7
          have l4 := run_ldP B4.at
          have t4 := run_stTo (m' := mkT (v : Int) p) ((HX.out.below b3).below b4)
          have HE : Hid (GtT w (w4.setRow g1 (ToC (mkT (v : Int) p))) Z (.returned (.tuple #[ToV (mkT (v : Int) p), .int .i64 0])) ∧ ToBox (w4.setRow g1 (ToC (mkT (v : Int) p))) g1 (mkT (v : Int) p)) := by
            have h1 := HB.out.2
            have h2 := HX.out.lt
            have h3 := HB.out.1.size
            have hb : Below w.heap.size w w4 := HB.out.1.trans ((b3.trans (b4.mono b3.size)).mono HB.out.1.size)
            refine ⟨⟨below_setRow hb (by omega), .inl ⟨v, p, ⟨HZ.out.2.1, hI⟩, ?_, rfl, ((hN.below b4).keep (fun k h1 h2 => setRow_other _ _ _ _ (by omega))).mono (by omega)⟩⟩, ((HX.out.below b3).below b4).setRow⟩
            rw [HZ.out.1, hZp]
            unfold tokB nB
            rw [Int.toNat_natCast]
          clear hI hZp hN b3 b4 s4 HF
          go_wp2_with fail
          refine bodyPost_ret (res2To rfl rfl rfl HE.out.2) rfl ?_
          exact HE.out.1
        · obtain ⟨w4, hr4, B4, b4, s4⟩ := madeP w3 pv0 g7 hg7
          have l4 := run_ldP B4.at
          have t4 := run_stTo (m' := to0) ((HX.out.below b3).below b4)
          have HE := hide (HF.out w4 (b3.trans (b4.mono b3.size)) (fun c P h e => by
            have hc := tok_bd h
            have e1 : U.pNum 9223372036854775807 Z = some (c.toNat, pastB P) := by rw [e]; exact U.pNum_to _ (by omega) (by omega)
            have e2 : U.pNum 9223372036854775807 Z = some (v, Z.drop k) := by have h := U.pNum_to (most := 9223372036854775807) (v := v) (Z.drop k) (by have := HZ.out.2.2; omega) (by have := HZ.out.2.2; omega); rw [← HZ.out.1] at h; exact h
            rw [e1] at e2
            simp only [Option.some.injEq, Prod.mk.injEq] at e2
            exact hn P h.2 e2.2.symm))
          clear hn b3 b4 s4 HF
          go_wp2_with fail
          refine bodyPost_ret (res2To rfl rfl rfl HE.out.2) rfl ?_
          exact HE.out.1
    · have hc : isC (v : Int) = false := by rw [isC_nat]; simpa using h64
      have hbad := HF.out w1 (Below.refl _ _) (fun c P h e => by
        have hc := tok_bd h
        have e1 : U.pNum 9223372036854775807 Z = some (c.toNat, pastB P) := by rw [e]; exact U.pNum_to _ (by omega) (by omega)
        have e2 : U.pNum 9223372036854775807 Z = some (v, Z.drop k) := by have h := U.pNum_to (most := 9223372036854775807) (v := v) (Z.drop k) (by omega) (by omega); rw [← hZ] at h; exact h
        rw [e1] at e2
        simp only [Option.some.injEq, Prod.mk.injEq] at e2
        omega)
      have HE := hide hbad
      have HI := hide (isCart_any (v : Int) w1)
      rw [hc] at HI
      clear S hcap hz b1 x1 s1 hO hZ hA hbad hl HF hsub hc
      go_enter Try.func38, Try.ntmps38
      go_wp2_with fail
      clear hw1 hg1
      refine HN.out.mono ?_
      rintro r w2 ⟨rfl, rfl⟩
      unfold U.p3
      go_wp2_with fail
      refine HI.out.mono ?_
      rintro r w2 ⟨rfl, rfl⟩
      go_wp2_with fail
      refine bodyPost_ret (res2To rfl rfl rfl HE.out.2) rfl ?_
      exact HE.out.1
end Go.Proofs.Ytnghfnhpjdafmaa
