/- FGp URl ZFr -/
import Derived.Test.YtbmjiedpaffifaaGreatDb37
import Derived.Test.YtbmjiedpaffifaaGreatDb21
import Derived.Test.YtbmjiedpaffifaaGreatDb20
import Derived.Test.YtbmjiedpaffifaaGreatDb36
namespace Go.Proofs.YtbmjiedpaffifaaGreat
open Go.RowKit
attribute [local go_sem ↓] ldP_eq stP_eq
attribute [local go_sem] zero_PC cells_PV PC_size
variable {w w' w2 W W' : World} {g gv gr : Nat} {Z : List Int}

theorem trlOk_room : ∀ (L : List Sn) (T : Nat → Int) (r0 : Int), 0 ≤ r0 → r0 ≤ 15 → TrlOk T r0 L → (∀ k, 0 ≤ T k ∧ T k ≤ 1000000000) → r0 * 1000000001 + T r0.toNat + L.length ≤ 16000000015
  | [], T, r0, h0, h1, _, hT => by
    have := hT r0.toNat
    simp only [List.length_nil]
    omega
  | s :: t, T, r0, h0, h1, h, hT => by
    obtain ⟨⟨a1, a2, a3⟩, a4, a5, a6, a7⟩ := h
    have hs := hT s.rep.toNat
    have h0' := hT r0.toNat
    have ih := trlOk_room t (upd T s.rep.toNat s.hi) s.rep a2 a3 a7 (fun k => by unfold upd; split <;> first | omega | exact hT k)
    have e : upd T s.rep.toNat s.hi s.rep.toNat = s.hi := by unfold upd; rw [if_pos rfl]
    rw [e] at ih
    simp only [List.length_cons]
    by_cases er : s.rep = r0
    · rw [er] at ih a4; omega
    · omega
theorem rd_room {R : List Int} {P : Pst} (hZ : U.Oc Z) (h : rdPast Z = some (P, R)) : P.vec.length ≤ 16 ∧ P.cloud.length ≤ 16000000015 := by
  obtain ⟨-, -, h1, h2, h3⟩ := rdPast_of hZ h
  have hb : ∀ k, 0 ≤ trl P.vec k ∧ trl P.vec k ≤ 1000000000 := fun k => by
    unfold trl
    rw [List.getD_eq_getElem?_getD]
    by_cases ht : k < P.vec.length
    · rw [List.getElem?_eq_getElem ht]; exact h2 _ (List.getElem_mem ht)
    · rw [List.getElem?_eq_none (Nat.le_of_not_lt ht)]; exact ⟨by decide, by decide⟩
  have := trlOk_room P.cloud (trl P.vec) 0 (Int.le_refl 0) (by decide) h3 hb
  have := (hb (0 : Int).toNat).1
  exact ⟨h1, by omega⟩
/-- a past in new memory -/
structure PN (n0 : Nat) (w : World) (p : Pv) : Prop where
  v : I.BR w p.vo p.vn p.vc p.P.vec
  c : J.BR w p.co p.cn p.cc p.P.cloud
  vb : ∀ k, U.blk p.vo = some k → n0 ≤ k
  cb : ∀ k, U.blk p.co = some k → n0 ≤ k
  lv : p.vn ≤ 16
  lc : p.cn ≤ 16000000015
theorem PN.keep {n0 : Nat} {p : Pv} (h : PN n0 w p) (hk : ∀ k, n0 ≤ k → k < w.heap.size → w'.heap[k]? = w.heap[k]?) : PN n0 w' p :=
  ⟨h.v.keep fun k e => hk k (h.vb k e) (h.v.lt k e), h.c.keep fun k e => hk k (h.cb k e) (h.c.lt k e), h.vb, h.cb, h.lv, h.lc⟩
theorem PN.below {n0 : Nat} {p : Pv} (h : PN n0 w p) (hb : Below w.heap.size w w') : PN n0 w' p := h.keep fun k _ hk => hb.block k hk
theorem PN.mono {n0 n1 : Nat} {p : Pv} (h : PN n0 w p) (hn : n1 ≤ n0) : PN n1 w p := ⟨h.v, h.c, fun k e => Nat.le_trans hn (h.vb k e), fun k e => Nat.le_trans hn (h.cb k e), h.lv, h.lc⟩
theorem PN.src {n0 : Nat} {p : Pv} (h : PN n0 w p) : PSrc w p := ⟨⟨h.v.len, h.v.at.1, h.v.at.2⟩, h.c.src (by have := h.lc; omega), by have := h.lv; omega⟩
/-- what the closure leaves -/
def GcP (w : World) (g gv : Nat) (Z : List Int) (r : Ending) (w' : World) : Prop :=
  (w'.os = w.os ∧ w'.tape = w.tape ∧ w'.output = w.output ∧ w.heap.size ≤ w'.heap.size ∧ ∀ k, k < w.heap.size → k ≠ g → k ≠ gv → w'.heap[k]? = w.heap[k]?) ∧
  ((∃ p R so sc, rdPast Z = some (p.P, R) ∧ r = .returned (.tuple #[]) ∧ PN w.heap.size w' p ∧ PBox w' gv p ∧ U.Rdr w' g so R.length sc 0 false) ∨
    (rdPast Z = none ∧ r = .panicked (U.ups g) ∧ ∃ e, e ≠ 0 ∧ U.Rdr w' g none 0 0 e false))
abbrev rdF : Value := .func (.func 57) #[] #[]
set_option maxRecDepth 100000 in
theorem getc_any {B : Option Nat} (R : RB w g Z B) (hB : ∀ k, B = some k → k < w.heap.size) (hO : U.Oc Z) (hr : w.heap[gr]? = some (.cells #[rdF] 99 (0, 0))) (M : PBox w gv pv0) (hn : gv ≠ g) : Calls Tryz.prog 71 #[U.ptr g, U.ptr gr, U.ptr gv] w fun r w' => GcP w g gv Z r w' := by
  have HC := hide (rpast_any R hB)
  have HM := hide M
  have HG : Hid (gv ≠ g ∧ g < w.heap.size) := ⟨hn, R.lt⟩
  have HO := hide hO
  have c0 := box_cell hr
  clear R hB M hn hr hO
  go_enter Tryz.func71, Tryz.ntmps71
  go_wp2_with fail
  refine HC.out.mono ?_
  rintro r w2 (⟨hp, rfl, e, he, RR, K⟩ | ⟨P, R, vo, vc, co, cc, hp, rfl, RR, K, hv, hc, nv, nc⟩)
  · have HE : Hid (GcP w g gv Z (.panicked (U.ups g)) w2) := ⟨⟨K.os, K.tape, K.output, K.size, fun k hk h1 _ => K.block k hk h1⟩, Or.inr ⟨hp, rfl, e, he, RR⟩⟩
    clear hp he RR K HC
    go_wp2_with fail
    exact ⟨rfl, HE.out⟩
  · have M2 : PBox w2 gv pv0 := (K.block gv HM.out.lt HG.out.1).trans HM.out
    have hs := run_stP (p' := ⟨vo, P.vec.length, vc, co, P.cloud.length, cc, P⟩) M2
    have hlt := HM.out.lt
    have hroom := rd_room HO.out hp
    have HE : Hid (GcP w g gv Z (.returned (.tuple #[])) (w2.setRow gv (PC ⟨vo, P.vec.length, vc, co, P.cloud.length, cc, P⟩))) := by
      obtain ⟨so, sn, sc, RL, -⟩ := RR
      have hN : PN w.heap.size w2 ⟨vo, P.vec.length, vc, co, P.cloud.length, cc, P⟩ := ⟨hv, hc, nv, nc, hroom.1, hroom.2⟩
      refine ⟨⟨K.os, K.tape, K.output, by simpa [World.setRow] using K.size, fun k hk h1 h2 => (setRow_other _ _ _ _ h2).trans (K.block k hk h1)⟩, Or.inl ⟨⟨vo, P.vec.length, vc, co, P.cloud.length, cc, P⟩, R, so, sc, hp, rfl, hN.keep (fun k h1 h2 => setRow_other _ _ _ _ (by omega)), setRow_heap _ _ _ _ _ _ M2, ?_⟩⟩
      have := RL.len
      rw [this]
      exact (setRow_other _ _ _ _ (Ne.symm HG.out.1)).trans RL.r
    clear hp hv hc nv nc RR K M2 hlt HC hroom
    go_wp2_with fail
    go_end0
    exact HE.out
/-- what GetPast answers -/
def GpA (w w' : World) (Z : List Int) (r : Ending) : Prop := Below w.heap.size w w' ∧
  ((∃ p, InForm p.P ∧ Z = pastB p.P ∧ r = .returned (.tuple #[PV p, .int .i64 0]) ∧ PN w.heap.size w' p) ∨
    ((∀ P, InForm P → Z ≠ pastB P) ∧ r = .returned (.tuple #[PV pv0, .int .i64 8])))
/-- Read is behind us -/
def RpA (w1 w' : World) (gv : Nat) (Z : List Int) (err : Int) : Prop := U.Kg w1 w' gv ∧
  ((∃ p R, rdPast Z = some (p.P, R) ∧ err = U.endA R.length ∧ PN w1.heap.size w' p ∧ PBox w' gv p) ∨ (rdPast Z = none ∧ err ≠ 0))
set_option maxRecDepth 100000 in
theorem read_past (ro : Option Addr) (rn rc : Nat) (Z : List Int) (gr gv : Nat) (w1 : World) (S : U.Src w1 ro rn rc Z) (hcap : rn ≤ rc) (hz : rn ≤ 140737488355328) (hr : w1.heap[gr]? = some (.cells #[rdF] 99 (0, 0))) (M : PBox w1 gv pv0) : Calls Tryz.prog 17 #[.slice ro rn rc, .func (.func 71) #[] #[U.ptr gr, U.ptr gv]] w1 fun r w' => ∃ err, r = .returned (.int .i64 err) ∧ RpA w1 w' gv Z err := by
  have hcf : ∀ (args : Array Value) (w : World), (callFunc 71 args).run Tryz.prog w = .ok (.enter 71 args) w := fun _ _ => rfl
  have G1 := U.beg w1 ro rn rc
  obtain ⟨W1, hW1⟩ : ∃ W1, U.W0 w1 ro rn rc = W1 := ⟨_, rfl⟩
  rw [hW1] at G1
  have hb := G1.b
  have hsz := G1.n.2
  have hlt : rn ≠ 0 → ∀ k, U.blk ro = some k → k < w1.heap.size := fun h0 k e => by
    obtain ⟨ad, ha, hc⟩ := U.cell_at S 0 (by omega)
    have := World.block_lt_of_cell? _ _ hc
    rw [U.block_of_add] at this
    rw [ha] at e
    have : ad.block = k := Option.some.inj e
    omega
  have hM1 := M.lt
  have hr1 := some_lt hr
  have hf : Calls Tryz.prog 71 #[U.ptr (w1.heap.size + 1), U.ptr gr, U.ptr gv] W1 fun r w' => GcP W1 (w1.heap.size + 1) gv Z r w' := by
    have hRL : U.RL W1 (w1.heap.size + 1) ro rn rc Z := ⟨G1.r, S.below hb, hcap, by omega, fun h0 e => by have := hlt h0 _ e; omega⟩
    by_cases h0 : rn = 0
    · have hZ : Z = [] := List.eq_nil_of_length_eq_zero (by rw [S.1]; exact h0)
      exact getc_any (B := none) ⟨ro, rn, rc, hRL, fun h => absurd hZ h⟩ (fun k e => by cases e) S.2.2.2 ((G1.b.block gr hr1).trans hr) (M.below G1.b) (by omega)
    · exact getc_any ⟨ro, rn, rc, hRL, fun _ => rfl⟩ (fun k e => by have := hlt h0 k e; omega) S.2.2.2 ((G1.b.block gr hr1).trans hr) (M.below G1.b) (by omega)
  have hR := U.read_any ro rn rc 71 #[U.ptr gr, U.ptr gv] (GcP W1 (w1.heap.size + 1) gv Z) w1 hcf (by rw [hW1]; exact hf) (by
    rintro e w2 ⟨⟨-, -, -, -, K⟩, h⟩
    refine ⟨?_, (K _ (by omega) (by omega) (by omega)).trans G1.v, (K _ (by omega) (by omega) (by omega)).trans G1.e⟩
    rcases h with ⟨_, _, _, _, _, rfl, _, _, R⟩ | ⟨_, rfl, e, he, R⟩
    · exact ⟨_, _, .calm R⟩
    · exact ⟨_, _, .up R he⟩)
  refine hR.mono ?_
  rintro r w' ⟨e2, w2, gave, err, ⟨⟨k1, k2, k3, k4, K⟩, h⟩, hE, rfl, F⟩
  refine ⟨err, rfl, ⟨F.os.trans (k1.trans hb.os), F.tape.trans (k2.trans hb.tape), F.output.trans (k3.trans hb.output), Nat.le_trans hb.size (Nat.le_trans k4 F.size), fun k hk hne => (F.block k (by omega) (by omega) (by omega)).trans ((K k (by omega) (by omega) hne).trans (hb.block k hk))⟩, ?_⟩
  rcases h with ⟨p, R, so, sc, hp, rfl, hM, MB, RR⟩ | ⟨hp, rfl, e, he, RR⟩
  · refine Or.inl ⟨p, R, hp, ?_, (hM.keep (fun k h1 h2 => F.block k h2 (by omega) (by omega))).mono (by omega), (F.block gv MB.lt (by omega) (by omega)).trans MB⟩
    cases hE with
    | calm R' =>
      obtain ⟨h1, -⟩ := U.rdr_inj RR R'
      rw [h1]
  · refine Or.inr ⟨hp, ?_⟩
    cases hE with
    | up R' he' => exact he'
theorem res2P {fn : Func} {p q : Tmp} {m : Pv} {v : Value} (h : fn.results = #[.cell p 25, .tmp q]) {tmps : Array Value} (hp : tmps.getD p undef = .pointer (some ⟨g, 0, none⟩)) (hq : tmps.getD q undef = v) (A : PBox w g m) :
    (results fn tmps).run Tryz.prog w = .ok (.tuple #[PV m, v]) w := by
  have hl := run_lvP A.at
  simp only [results, h]
  rw [Array.getD_eq_getD_getElem?] at hp hq
  simp [hp, hq, asAddr, hl]
theorem GpA.bad (b : Below w.heap.size w w') (h : ∀ p, InForm p → rdPast Z ≠ some (p, [])) : GpA w w' Z (.returned (.tuple #[PV pv0, .int .i64 8])) :=
  ⟨b, .inr ⟨fun P hP e => h P hP (by rw [e, ← List.append_nil (pastB P)]; exact rdPast_to hP []), rfl⟩⟩
set_option maxRecDepth 100000 in
set_option maxHeartbeats 4000000 in
theorem packGet_any (ro : Option Addr) (rn rc : Nat) (Z : List Int) (w : World) (S : U.Src w ro rn rc Z) (hcap : rn ≤ rc) (hz : rn ≤ 140737488355328) : Calls Tryz.prog 56 #[.slice ro rn rc, rdF, .func (.func 24) #[] #[]] w fun r w' => GpA w w' Z r := by
  have hmf : ∀ (fn : Fn) (first cap : Array Value) (w : World), (Instr.makeFunc fn first cap).run Tryz.prog w = .ok (.func fn first cap) w := fun _ _ _ _ => rfl
  obtain ⟨g1, hg1⟩ : ∃ g1, w.heap.size = g1 := ⟨_, rfl⟩
  have b1 := below_new w (.cells #[rdF] 99)
  have x1 := heap_alloc_new w (.cells #[rdF] 99)
  have s1 := World.size_alloc w (.cells #[rdF] 99)
  obtain ⟨w1, hw1⟩ : ∃ w1, w.alloc (.cells #[rdF] 99) = w1 := ⟨_, rfl⟩
  rw [hw1] at b1 x1 s1
  have b2 := below_new w1 (.cells (PC pv0) 25)
  have x2 := pbox_new w1 pv0
  have s2 := World.size_alloc w1 (.cells (PC pv0) 25)
  obtain ⟨w2, hw2⟩ : ∃ w2, w1.alloc (.cells (PC pv0) 25) = w2 := ⟨_, rfl⟩
  rw [hw2] at b2 x2 s2
  have b3 := below_new w2 (.cells (PC pv0) 25)
  have x3 := pbox_new w2 pv0
  have s3 := World.size_alloc w2 (.cells (PC pv0) 25)
  obtain ⟨w3, hw3⟩ : ∃ w3, w2.alloc (.cells (PC pv0) 25) = w3 := ⟨_, rfl⟩
  rw [hw3] at b3 x3 s3
  have b4 := below_new w3 (.cells (PC pv0) 25)
  have x4 := pbox_new w3 pv0
  have s4 := World.size_alloc w3 (.cells (PC pv0) 25)
  obtain ⟨w4, hw4⟩ : ∃ w4, w3.alloc (.cells (PC pv0) 25) = w4 := ⟨_, rfl⟩
  rw [hw4] at b4 x4 s4
  rw [s1] at x2 s2
  rw [s2] at x3 s3
  rw [s3] at x4 s4
  rw [hg1] at x1 x2 x3 x4 s1 s2 s3 s4
  have bt := b1.trans ((b2.trans ((b3.trans (b4.mono b3.size)).mono b2.size)).mono b1.size)
  have b34 := b3.trans (b4.mono b3.size)
  have B2 : PBox w4 (g1 + 1) pv0 := x2.below b34
  have B3 : PBox w4 (g1 + 1 + 1) pv0 := x3.below b4
  have R4 : w4.heap[g1]? = some (.cells #[rdF] 99 (0, 0)) := ((b2.trans (b34.mono b2.size)).block g1 (by omega)).trans x1
  have HR := hide (read_past ro rn rc Z g1 (g1 + 1 + 1) w4 (S.below bt) hcap hz R4 B3)
  have HM : Hid (PBox w4 (g1 + 1) pv0 ∧ PBox w4 (g1 + 1 + 1 + 1) pv0 ∧ Below w.heap.size w w4 ∧ w.heap.size = g1 ∧ U.Oc Z) := ⟨B2, x4, bt, hg1, S.2.2.2⟩
  clear S b1 b2 b3 b4 x1 x2 x3 x4 bt b34 B2 B3 R4 hcap hz
  go_enter Tryz.func56, Tryz.ntmps56
  go_wp2_with fail
  clear hw1 hw2 hw3 hw4 s1 s2 s3 s4 hg1
  refine HR.out.mono ?_
  rintro r w5 ⟨err, rfl, K5, h⟩
  have M2 : PBox w5 (g1 + 1) pv0 := (K5.block _ HM.out.1.lt (by omega)).trans HM.out.1
  have M4 : PBox w5 (g1 + 1 + 1 + 1) pv0 := (K5.block _ HM.out.2.1.lt (by omega)).trans HM.out.2.1
  have b5 : Below w.heap.size w w5 := ⟨K5.os.trans HM.out.2.2.1.os, K5.tape.trans HM.out.2.2.1.tape, K5.output.trans HM.out.2.2.1.output, Nat.le_trans HM.out.2.2.1.size K5.size, fun k hk => (K5.block k (Nat.lt_of_lt_of_le hk HM.out.2.2.1.size) (by have := HM.out.2.2.2.1; omega)).trans (HM.out.2.2.1.block k hk)⟩
  have HM2 := hide M2
  have HM4 := hide M4
  have HB5 := hide b5
  have HK5 := hide K5
  clear HR M2 M4 b5 K5
  by_cases he : err = 0
  · subst he
    obtain ⟨p, hp, hMl, MB⟩ : ∃ p, rdPast Z = some (p.P, []) ∧ PN w4.heap.size w5 p ∧ PBox w5 (g1 + 1 + 1) p := by
      rcases h with ⟨p, R, hp, hR, hMl, MB⟩ | ⟨_, h0⟩
      · cases R with
        | nil => exact ⟨p, hp, hMl, MB⟩
        | cons x R => simp [U.endA] at hR
      · exact absurd rfl h0
    have l5 := run_ldP MB.at
    have HP := hide hp
    have HMl := hide hMl
    have HMB := hide MB
    clear h hp hMl MB
    go_wp2_with fail
    refine (checkPast_any p _ HMl.out.src).mono ?_
    rintro e w6 ⟨x, rfl, hx, b6⟩
    have HB6 := hide (HB5.out.trans (b6.mono HB5.out.size))
    rcases hx with ⟨rfl, hx⟩ | ⟨rfl, hx⟩
    · have l6 := run_ldP (HM4.out.below b6).at
      have t6 := run_stP (p' := pv0) (HM2.out.below b6)
      have HE : Hid (GpA w (w6.setRow (g1 + 1) (PC pv0)) Z (.returned (.tuple #[PV pv0, .int .i64 8]))) := GpA.bad (below_setRow HB6.out (by have := HM.out.2.2.2.1; omega)) (fun q hq e => by
        rw [HP.out] at e
        simp only [Option.some.injEq, Prod.mk.injEq, and_true] at e
        rw [e] at hx
        exact hx hq)
      have HX : Hid (PBox (w6.setRow (g1 + 1) (PC pv0)) (g1 + 1) pv0) := setRow_heap _ _ _ _ _ _ (HM2.out.below b6)
      clear hx b6 l5
      go_wp2_with fail
      refine bodyPost_ret (res2P rfl rfl rfl HX.out) rfl ?_
      exact HE.out
    · have l6 := run_ldP (HMB.out.below b6).at
      have t6 := run_stP (p' := p) (HM2.out.below b6)
      have HE : Hid (GpA w (w6.setRow (g1 + 1) (PC p)) Z (.returned (.tuple #[PV p, .int .i64 0]))) := by
        have e1 := (rdPast_of HM.out.2.2.2.2 HP.out).1
        rw [List.append_nil] at e1
        have h2 := HM.out.2.1.lt
        have h3 := HM.out.2.2.2.1
        refine ⟨below_setRow HB6.out (by omega), .inl ⟨p, hx, e1, rfl, ((HMl.out.below b6).keep (fun k h1 h2 => setRow_other _ _ _ _ (by omega))).mono (by omega)⟩⟩
      have HX : Hid (PBox (w6.setRow (g1 + 1) (PC p)) (g1 + 1) p) := setRow_heap _ _ _ _ _ _ (HM2.out.below b6)
      clear hx b6 l5
      go_wp2_with fail
      refine bodyPost_ret (res2P rfl rfl rfl HX.out) rfl ?_
      exact HE.out
  · have hne : (err != 0) = true := by simpa using he
    have l6 := run_ldP HM4.out.at
    have t6 := run_stP (p' := pv0) HM2.out
    have HE : Hid (GpA w (w5.setRow (g1 + 1) (PC pv0)) Z (.returned (.tuple #[PV pv0, .int .i64 8]))) := GpA.bad (below_setRow HB5.out (by have := HM.out.2.2.2.1; omega)) (fun q hq e => by
      rcases h with ⟨p, R, hp, hR, hMl, MB⟩ | ⟨hp, h0⟩
      · rw [hp] at e
        simp only [Option.some.injEq, Prod.mk.injEq] at e
        rw [e.2] at hR
        exact he hR
      · rw [hp] at e; cases e)
    have HX : Hid (PBox (w5.setRow (g1 + 1) (PC pv0)) (g1 + 1) pv0) := setRow_heap _ _ _ _ _ _ HM2.out
    clear h he
    go_wp2_with fail
    refine bodyPost_ret (res2P rfl rfl rfl HX.out) rfl ?_
    exact HE.out
set_option maxRecDepth 100000 in
theorem getPast_any (ro : Option Addr) (rn rc : Nat) (Z : List Int) (w : World) (S : U.Src w ro rn rc Z) (hcap : rn ≤ rc) (hz : rn ≤ 140737488355328) : Calls Tryz.prog 35 #[.slice ro rn rc] w fun r w' => GpA w w' Z r := by
  have b1 := below_new w (.cells (PC pv0) 25)
  have x1 := pbox_new w pv0
  have s1 := World.size_alloc w (.cells (PC pv0) 25)
  obtain ⟨w1, hw1⟩ : ∃ w1, w.alloc (.cells (PC pv0) 25) = w1 := ⟨_, rfl⟩
  obtain ⟨g1, hg1⟩ : ∃ g1, w.heap.size = g1 := ⟨_, rfl⟩
  rw [hw1] at b1 x1 s1
  rw [hg1] at x1
  have HC := hide (packGet_any ro rn rc Z w1 (S.below b1) hcap hz)
  have HX := hide x1
  have HB : Hid (Below w.heap.size w w1 ∧ w.heap.size = g1) := ⟨b1, hg1⟩
  clear S hcap hz b1 x1 s1
  go_enter Tryz.func35, Tryz.ntmps35
  go_wp2_with fail
  clear hw1 hg1
  refine HC.out.mono ?_
  rintro r w2 ⟨b2, h⟩
  have HB2 := hide (HB.out.1.trans (b2.mono HB.out.1.size))
  rcases h with ⟨p, hI, hZ, rfl, hN⟩ | ⟨hn, rfl⟩
  · have t2 := run_stP (p' := p) (HX.out.below b2)
    have HE : Hid (GpA w (w2.setRow g1 (PC p)) Z (.returned (.tuple #[PV p, .int .i64 0]))) := by
      have h1 := HX.out.lt
      have h2 := HB.out.2
      have h3 := HB.out.1.size
      exact ⟨below_setRow HB2.out (by omega), .inl ⟨p, hI, hZ, rfl, (hN.keep (fun k h1 h2 => setRow_other _ _ _ _ (by omega))).mono (by omega)⟩⟩
    have HX2 : Hid (PBox (w2.setRow g1 (PC p)) g1 p) := setRow_heap _ _ _ _ _ _ (HX.out.below b2)
    clear hI hZ hN b2
    go_wp2_with fail
    refine bodyPost_ret (res2P rfl rfl rfl HX2.out) rfl ?_
    exact HE.out
  · have t2 := run_stP (p' := pv0) (HX.out.below b2)
    have HE : Hid (GpA w (w2.setRow g1 (PC pv0)) Z (.returned (.tuple #[PV pv0, .int .i64 8]))) := by
      have h2 := HB.out.2
      exact ⟨below_setRow HB2.out (by omega), .inr ⟨hn, rfl⟩⟩
    have HX2 : Hid (PBox (w2.setRow g1 (PC pv0)) g1 pv0) := setRow_heap _ _ _ _ _ _ (HX.out.below b2)
    clear hn b2
    go_wp2_with fail
    refine bodyPost_ret (res2P rfl rfl rfl HX2.out) rfl ?_
    exact HE.out
end Go.Proofs.YtbmjiedpaffifaaGreat
namespace Go.Proofs.YtbmjiedpaffifaaGreat.U
open Go.RowKit
variable {w w' w2 : World} {g : Nat} {ro so : Option Addr} {rn rc sn sc : Nat} {gave : Int} {over : Bool} {Z : List Int}

def OrK (k : Nat) (e : Int) : Prop := k = 1 → e = 0
def orE (e : Int) : Int := if e = 0 then 8 else e
set_option maxRecDepth 100000 in
theorem or_any (e : Int) (w : World) : Calls Tryz.prog 62 #[.slice (some ⟨w.heap.size, 0, none⟩) 2 2] (w.alloc (.cells #[.int .i64 e, .int .i64 8] 29)) fun r w' => r = .returned (.int .i64 (orE e)) ∧ w' = w.alloc (.cells #[.int .i64 e, .int .i64 8] 29) := by
  have h1 := heap_alloc_new w (.cells #[.int .i64 e, .int .i64 8] 29)
  obtain ⟨q, hq⟩ : ∃ q, w.heap.size = q := ⟨_, rfl⟩
  rw [hq] at h1 ⊢
  generalize w.alloc (.cells #[.int .i64 e, .int .i64 8] 29) = w1 at h1 ⊢
  have c0 : w1.cell? ⟨q, 0, none⟩ = some (.int .i64 e) := by simp [World.cell?, h1]
  have c1 : w1.cell? ⟨q, 1, none⟩ = some (.int .i64 8) := by simp [World.cell?, h1]
  clear h1
  go_enter Tryz.func62, Tryz.ntmps62
  go_wp2_with fail
  go_loopw [8] (fun i wr => ∃ k : Nat, k ≤ 1 ∧ i = .int .i64 k ∧ Hid (OrK k e) ∧ wr = w1) (fun i _ => 2 - (intOf i).toNat)
  case atStart => exact ⟨0, by decide, rfl, (fun h => by cases h), rfl⟩
  case round =>
    obtain ⟨k, hk, rfl, HK, rfl⟩ := hrel
    by_cases h0 : k = 0
    · subst h0
      by_cases he : e = 0
      · subst he
        go_wp2_with fail
        go_roundw
        case rel => exact ⟨1, Nat.le_refl _, rfl, (show OrK 1 0 from fun _ => rfl), by trivial⟩
        case measure => simp [intOf]
      · have heb : (e != 0) = true := by simpa using he
        have HE : Hid (orE e = e) := if_neg he
        clear he
        go_wp2_with fail
        go_ret
        exact ⟨by rw [HE.out]; rfl, rfl⟩
    · obtain rfl : k = 1 := by omega
      have HE : Hid (orE e = 8) := if_pos (HK.out rfl)
      go_wp2_with fail
      go_ret
      exact ⟨by rw [HE.out]; rfl, rfl⟩
set_option maxRecDepth 100000 in
theorem fail_live (R : RL w g ro rn rc Z) (e : Int) : Calls Tryz.prog 38 #[ptr g, .int .i64 e] w fun r w' => r = .panicked (ups g) ∧ Gave w w' g (orE e) := by
  have HM := hide (mayRead_live R.r)
  have HO := hide (or_any e w)
  have b1 := below_new w (.cells #[.int .i64 e, .int .i64 8] 29)
  have HU := hide (giveUp_any (R.kg_below b1).r (orE e))
  have HB := hide b1
  clear R b1
  go_enter Tryz.func38, Tryz.ntmps38
  go_wp2_with fail
  refine HM.out.mono ?_
  rintro r w2 ⟨rfl, rfl⟩
  go_wp2_with fail
  refine HO.out.mono ?_
  rintro r w3 ⟨rfl, rfl⟩
  go_wp2_with fail
  refine HU.out.mono ?_
  rintro r w3 ⟨rfl, R3, K3⟩
  have HE : Hid (Gave w2 w3 g (orE e)) := ⟨R3, (Kg.of_below HB.out).trans K3⟩
  clear R3 K3
  go_wp2_with fail
  exact ⟨rfl, rfl, HE.out⟩
/-! ### a reader that is over -/
set_option maxRecDepth 100000 in
theorem fail_over (R : Rdr w g none 0 0 gave true) (e : Int) : Calls Tryz.prog 38 #[ptr g, .int .i64 e] w fun r w' => r = .returned (.tuple #[]) ∧ w' = w := by
  have HM := hide (mayRead_over R)
  clear R
  go_enter Tryz.func38, Tryz.ntmps38
  go_wp2_with fail
  refine HM.out.mono ?_
  rintro r w2 ⟨rfl, rfl⟩
  go_wp2_with fail
  go_end0
  exact ⟨rfl, rfl⟩
set_option maxRecDepth 100000 in
theorem num_over (R : Rdr w g none 0 0 gave true) (most : Int) : Calls Tryz.prog 72 #[ptr g, .int .i64 most] w fun r w' => r = .returned (.int .i64 0) ∧ w' = w := by
  have HM := hide (mayRead_over R)
  clear R
  go_enter Tryz.func72, Tryz.ntmps72
  go_wp2_with fail
  refine HM.out.mono ?_
  rintro r w2 ⟨rfl, rfl⟩
  go_wp2_with fail
  go_ret
  exact ⟨rfl, rfl⟩
set_option maxRecDepth 100000 in
theorem count_over (R : Rdr w g none 0 0 gave true) : Calls Tryz.prog 73 #[ptr g, .int .i64 1] w fun r w' => r = .returned (.int .i64 0) ∧ w' = w := by
  have HM := hide (num_over R 9223372036854775807)
  have x0 := R.c0
  clear R
  go_enter Tryz.func73, Tryz.ntmps73
  go_wp2_with fail
  refine HM.out.mono ?_
  rintro r w2 ⟨rfl, rfl⟩
  go_wp2_with fail
  go_ret
  exact ⟨rfl, rfl⟩
/-- nothing but its own place was written, and that as it was -/
structure Ov (w w' : World) (g : Nat) (gave : Int) : Prop where
  r : Rdr w' g none 0 0 gave true
  k : Kg w w' g
set_option maxRecDepth 100000 in
theorem piece_over (R : Rdr w g none 0 0 gave true) (most : Int) : Calls Tryz.prog 59 #[ptr g, .int .i64 most] w fun r w' => r = .returned (.slice none 0 0) ∧ Ov w w' g gave := by
  have HM := hide (num_over R most)
  have x0 := R.c0
  have z0 := R.z 0
  have HE : Hid (Ov w (w.setCell ⟨g, 0, none⟩ (.slice none 0 0)) g gave) := ⟨R.set0 none 0 0, (Kg.refl w g).set 0 (.slice none 0 0)⟩
  clear R
  go_enter Tryz.func59, Tryz.ntmps59
  go_wp2_with fail
  refine HM.out.mono ?_
  rintro r w2 ⟨rfl, rfl⟩
  go_wp2_with fail
  go_ret
  exact ⟨rfl, HE.out⟩
set_option maxRecDepth 100000 in
theorem frame_over (R : Rdr w g none 0 0 gave true) (most : Int) : Calls Tryz.prog 36 #[ptr g, .int .i64 most] w fun r w' => (∃ bo c, r = .returned (.slice bo 0 c)) ∧ Ov w w' g gave := by
  have HM := hide (piece_over R most)
  clear R
  go_enter Tryz.func36, Tryz.ntmps36
  go_wp2_with fail
  refine HM.out.mono ?_
  rintro r w2 ⟨rfl, h2⟩
  have HC := hide (clone_any none 0 0 [] w2 (BS.nil_ w2) (by decide))
  have HE := hide h2
  clear h2
  go_wp2_with fail
  refine HC.out.mono ?_
  rintro r w3 ⟨bo, c, rfl, -, N⟩
  have HF : Hid (Ov w w3 g gave) := ⟨(N.1.block g HE.out.r.lt).trans HE.out.r, HE.out.k.trans (Kg.of_below N.1)⟩
  clear N
  go_wp2_with fail
  go_ret
  exact ⟨⟨bo, c, rfl⟩, HF.out⟩
end Go.Proofs.YtbmjiedpaffifaaGreat.U
namespace Go.Proofs.YtbmjiedpaffifaaGreat
open Go.RowKit
attribute [local go_sem ↓] ldP_eq stP_eq
attribute [local go_sem] zero_PC cells_PV PC_size
variable {w w' w2 W W' : World} {g gv : Nat} {Z : List Int} {B : Option Nat}

theorem pcE_to {Y R : List Int} {most : Int} (h : (Y.length : Int) ≤ most) (hm : Y.length ≤ 9223372036854775807) : U.pcE (U.numB Y.length ++ (Y ++ R)) most = 0 ∧ U.nmV (U.numB Y.length ++ (Y ++ R)) = Y.length ∧ U.nmK (U.numB Y.length ++ (Y ++ R)) = (U.numB Y.length).length := by
  have e1 : U.nmE (U.numB Y.length ++ (Y ++ R)) most = 0 := by rw [U.nmE_numB _ _ _ hm, if_neg (by omega)]
  have ek := U.nmK_numB Y.length (Y ++ R) hm
  have ev := U.nmV_numB Y.length (Y ++ R) hm
  refine ⟨?_, ev, ek⟩
  unfold U.pcE
  rw [e1, ek, ev, if_neg (by simp), if_neg (by simp only [List.length_append]; omega)]
/-- the piece that comes next -/
def pcY (Z : List Int) : List Int := (Z.drop (U.nmK Z)).take (U.nmV Z)
theorem pcY_to {P : Pst} {R : List Int} (h : InForm P) (e : Z = frB P ++ R) : U.pcE Z (Z.length : Int) = 0 ∧ pcY Z = pastB P := by
  have hl := pastB_len h
  have e2 : Z = U.numB (pastB P).length ++ (pastB P ++ R) := by rw [e]; unfold frB; rw [List.append_assoc]
  obtain ⟨h1, h2, h3⟩ := pcE_to (Y := pastB P) (R := R) (most := (Z.length : Int)) (by rw [e2]; simp only [List.length_append]; omega) (by omega)
  rw [← e2] at h1 h2 h3
  refine ⟨h1, ?_⟩
  unfold pcY
  rw [h2, h3, e2, List.drop_left, List.take_left]
theorem pc_of {most : Int} (hZ : U.Oc Z) (h : U.pcE Z most = 0) : Z = U.numB (U.nmV Z) ++ (pcY Z ++ Z.drop (U.nmK Z + U.nmV Z)) ∧ (pcY Z).length = U.nmV Z ∧ U.Oc (pcY Z) := by
  obtain ⟨hn, hl⟩ := U.pcE_ok h
  have hp : U.pNum most Z = some (U.nmV Z, Z.drop (U.nmK Z)) := by unfold U.pNum; rw [if_pos hn]
  obtain ⟨e1, -, e3, -⟩ := U.pNum_of hZ hp
  refine ⟨?_, by unfold pcY; rw [List.length_take, List.length_drop]; omega, fun t => ?_⟩
  · unfold pcY
    rw [← List.drop_drop, List.take_append_drop]
    exact e1
  · unfold pcY
    rw [List.getD_eq_getElem?_getD, List.getElem?_take]
    split
    · rw [← List.getD_eq_getElem?_getD]; exact e3 t
    · exact ⟨by decide, by decide⟩
/-- what framed answers -/
def FmP (w w' : World) (g : Nat) (B : Option Nat) (Z : List Int) (e : Ending) : Prop :=
  ((∀ P R, InForm P → Z ≠ frB P ++ R) ∧ e = .panicked (U.ups g) ∧ GaveE w w' g) ∨ ∃ p R, InForm p.P ∧ Z = frB p.P ++ R ∧ e = .returned (PV p) ∧ PN w.heap.size w' p ∧ RB w' g R B ∧ U.Kg w w' g
theorem PBox.kg {p : Pv} (h : PBox w gv p) (K : U.Kg w w' g) (hn : gv ≠ g) : PBox w' gv p := (K.block gv h.lt hn).trans h
set_option maxRecDepth 100000 in
set_option maxHeartbeats 3200000 in
theorem framed_any (R : RB w g Z B) (hBl : ∀ k, B = some k → k < w.heap.size) (hO : U.Oc Z) : Calls Tryz.prog 19 #[U.ptr g] w fun e w' => FmP w w' g B Z e := by
  obtain ⟨ro, rn, rc, R0, hB⟩ := R
  have b1 := below_new w (.cells (PC pv0) 25)
  have x1 := pbox_new w pv0
  have s1 := World.size_alloc w (.cells (PC pv0) 25)
  have hgl := R0.r.lt
  obtain ⟨w1, hw1⟩ : ∃ w1, w.alloc (.cells (PC pv0) 25) = w1 := ⟨_, rfl⟩
  obtain ⟨g1, hg1⟩ : ∃ g1, w.heap.size = g1 := ⟨_, rfl⟩
  rw [hw1] at b1 x1 s1
  rw [hg1] at x1 s1
  have R1 := R0.kg_below b1
  have HR1 := hide R1
  have HM : Hid (PBox w1 g1 pv0 ∧ Below w.heap.size w w1 ∧ w.heap.size = g1 ∧ U.Oc Z ∧ g < g1 ∧ Z.length = rn ∧ (Z ≠ [] → U.blk ro = B)) := ⟨x1, b1, hg1, hO, by omega, R0.len, hB⟩
  have HL := hide (U.left_any R1.r)
  have HBl := hide hBl
  clear hBl b1 x1 s1 R0 R1 hB hO hgl
  go_enter Tryz.func19, Tryz.ntmps19
  go_wp2_with fail
  clear hw1 hg1
  refine HL.out.mono ?_
  rintro e w2 ⟨rfl, rfl⟩
  rename World => w2
  clear HL
  by_cases hpc : U.pcE Z (rn : Int) = 0
  rotate_left
  · have HC := hide (U.frame_bad HR1.out rfl hpc)
    have HN : Hid (∀ P R, InForm P → Z ≠ frB P ++ R) := fun P R hP e => by
      have h1 := (pcY_to hP e).1
      rw [HM.out.2.2.2.2.2.1] at h1
      exact hpc h1
    have HP := hide hpc
    clear hpc
    go_wp2_with fail
    refine HC.out.mono ?_
    rintro r w3 ⟨rfl, hG⟩
    have HF : Hid (FmP w w3 g B Z (.panicked (U.ups g))) := .inl ⟨HN.out, rfl, GaveE.pre (U.Kg.of_below HM.out.2.1) ⟨_, HP.out, hG⟩⟩
    clear hG HC
    go_wp2_with fail
    exact ⟨rfl, HF.out⟩
  · have HC := hide (U.frame_ok HR1.out hpc)
    obtain ⟨eZ, eL, eO⟩ := pc_of HM.out.2.2.2.1 hpc
    have HZ : Hid (Z = U.numB (U.nmV Z) ++ (pcY Z ++ Z.drop (U.nmK Z + U.nmV Z)) ∧ (pcY Z).length = U.nmV Z ∧ U.Oc (pcY Z)) := ⟨eZ, eL, eO⟩
    have HBg : Hid (U.nmV Z ≤ 140737488355328) := by show _ ≤ _; have h1 := (U.pcE_ok hpc).2; have h2 := HM.out.2.2.2.2.2.1; have h3 := HR1.out.big; omega
    clear hpc eZ eL eO
    go_wp2_with fail
    refine HC.out.mono ?_
    rintro r w3 ⟨po, pc, rfl, hR3, hn3, so, sc, R3, hb3, K3⟩
    have HR3 := hide hR3
    have HM3 := hide (HM.out.1.kg K3 (by have := HM.out.2.2.2.2.1; omega))
    have HRL3 := hide R3
    have HK3 : Hid (U.Kg w w3 g ∧ w2.heap.size ≤ w3.heap.size ∧ U.blk so = U.blk ro) := ⟨(U.Kg.of_below HM.out.2.1).trans K3, K3.size, hb3⟩
    have HG := hide (getPast_any po (U.nmV Z) pc (pcY Z) w3 ⟨hR3.bs.len, hR3.bs.nil, hR3.bs.cell, HZ.out.2.2⟩ hR3.cap HBg.out)
    obtain ⟨nv, hnv⟩ : ∃ nv, U.nmV Z = nv := ⟨_, rfl⟩
    have HNv := hide hnv
    rw [hnv] at HG ⊢
    clear hR3 hn3 R3 hb3 K3 HC hnv
    go_wp2_with fail
    refine HG.out.mono ?_
    rintro r w4 ⟨b4, h4⟩
    have HM4 := hide (HM3.out.below b4)
    have HRL4 := hide (HRL3.out.kg_below b4)
    have HK4 : Hid (U.Kg w w4 g ∧ w.heap.size ≤ w3.heap.size) := ⟨HK3.out.1.trans (U.Kg.of_below b4), HK3.out.1.size⟩
    obtain ⟨g5, hg5⟩ : ∃ g5, w4.heap.size = g5 := ⟨_, rfl⟩
    rcases h4 with ⟨p, hIn, hY, rfl, hN⟩ | ⟨hno, rfl⟩
    · obtain ⟨w5, hst5, B5, b5, s5⟩ := madeP w4 p g5 hg5
      have l5 := run_ldP B5.at
      have t5 := run_stP (p' := p) (HM4.out.below b5)
      have HX : Hid (PBox (w5.setRow g1 (PC p)) g1 p) := setRow_heap _ _ _ _ _ _ (HM4.out.below b5)
      have HF : Hid (FmP w (w5.setRow g1 (PC p)) g B Z (.returned (PV p))) := by
        have h1 := HM.out.2.2.1
        have h2 := HM.out.2.2.2.2.1
        have hw4 := HM4.out.lt
        have Kr : U.Kg w5 (w5.setRow g1 (PC p)) g1 := ⟨rfl, rfl, rfl, by simp, fun j _ hn => setRow_other w5 g1 j _ hn⟩
        have R5 := HRL4.out.kg_below b5
        have k5 := HK4.out.1.trans (U.Kg.of_below b5)
        have hpn : PN w.heap.size (w5.setRow g1 (PC p)) p := ((hN.below b5).keep (fun k e1 e2 => setRow_other _ _ _ _ (by have := HM3.out.lt; omega))).mono (by have := HK4.out.2; omega)
        refine .inr ⟨p, Z.drop (U.nmK Z + U.nmV Z), hIn, ?_, rfl, hpn, ?_, ⟨k5.os, k5.tape, k5.output, by simpa [World.setRow] using k5.size, fun k hk hn => (setRow_other _ _ _ _ (by omega)).trans (k5.block k hk hn)⟩⟩
        · have e1 := HZ.out.1
          have e2 := HZ.out.2.1
          unfold frB
          rw [← hY, e2, List.append_assoc]
          exact e1
        · refine RB.keep (W := w5) ⟨so, _, sc, R5, fun hz => ?_⟩ (setRow_other _ _ _ _ (by omega)) (fun k e => ?_)
          · rw [HK3.out.2.2]
            exact HM.out.2.2.2.2.2.2 (fun ez => hz (by rw [ez]; simp))
          · have := HBl.out k e
            exact setRow_other _ _ _ _ (by omega)
      clear hN hIn hY b4 s5 B5 b5
      go_wp2_with fail
      clear hst5 hg5
      exact bodyPost_ret (resP Tryz.results19 rfl HX.out) rfl HF.out
    · obtain ⟨w5, hst5, B5, b5, s5⟩ := madeP w4 pv0 g5 hg5
      have HC := hide (U.fail_live (HRL4.out.kg_below b5) 8)
      have HN : Hid (∀ P R, InForm P → Z ≠ frB P ++ R) := fun P R hP e => hno P hP (pcY_to hP e).2
      have HK5 := hide (HK4.out.1.trans (U.Kg.of_below b5))
      clear hno b4 s5 B5 b5
      go_wp2_with fail
      clear hst5 hg5
      refine HC.out.mono ?_
      rintro r w6 ⟨rfl, hG⟩
      have HF : Hid (FmP w w6 g B Z (.panicked (U.ups g))) := .inl ⟨HN.out, rfl, GaveE.pre HK5.out ⟨_, by unfold U.orE; decide, hG⟩⟩
      clear hG HC
      go_wp2_with fail
      exact ⟨rfl, HF.out⟩
end Go.Proofs.YtbmjiedpaffifaaGreat
