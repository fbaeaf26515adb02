/- FGp IMr IWm IRm -/
import Derived.Test.YtphohmoibnoeaaaGreatPb31
import Derived.Test.YtphohmoibnoeaaaGreatPb17
import Derived.Test.YtphohmoibnoeaaaGreatPb30
import Derived.Test.YtphohmoibnoeaaaGreatPb25
import Derived.Test.YtphohmoibnoeaaaGreatPb26
namespace Go.Proofs.YtphohmoibnoeaaaGreat
open Go.RowKit
attribute [local go_sem ↓] ldP_eq stP_eq
attribute [local go_sem] zero_PC cells_PV PC_size
variable {w w' w2 W W' : World} {g gv gr : Nat} {Z : List Int}

theorem trlOk_room : ∀ (L : List Sn) (T : Nat → Int) (r0 : Int), 0 ≤ r0 → r0 ≤ 15 → TrlOk T r0 L → (∀ k, 0 ≤ T k ∧ T k ≤ 1000000000) → r0 * 1000000001 + T r0.toNat + L.length ≤ 16000000015
 | [], T, r0, h0, h1, _, hT => by
  have := hT r0.toNat
  simp only [List.length_nil]
  omega
 | s :: t, T, r0, h0, h1, h, hT => by
  obtain ⟨⟨a1, a2, a3⟩, a4, a5, a6, a7⟩ := h
  have hs := hT s.rep.toNat
  have h0' := hT r0.toNat
  have ih := trlOk_room t (upd T s.rep.toNat s.hi) s.rep a2 a3 a7 (fun k => by unfold upd; split <;> first | omega | exact hT k)
  have e : upd T s.rep.toNat s.hi s.rep.toNat = s.hi := by unfold upd; rw [if_pos rfl]
  rw [e] at ih
  simp only [List.length_cons]
  by_cases er : s.rep = r0
  ·rw [er] at ih a4; omega
  ·omega
theorem rd_room {R : List Int} {P : Pst} (hZ : U.Oc Z) (h : rdPast Z = some (P, R)) : P.vec.length ≤ 16 ∧ P.cloud.length ≤ 16000000015 := by
 obtain ⟨-, -, h1, h2, h3⟩ := rdPast_of hZ h
 have hb : ∀ k, 0 ≤ trl P.vec k ∧ trl P.vec k ≤ 1000000000 := fun k => by
  unfold trl
  rw [List.getD_eq_getElem?_getD]
  by_cases ht : k < P.vec.length
  ·rw [List.getElem?_eq_getElem ht]; exact h2 _ (List.getElem_mem ht)
  ·rw [List.getElem?_eq_none (Nat.le_of_not_lt ht)]; exact ⟨by decide, by decide⟩
 have := trlOk_room P.cloud (trl P.vec) 0 (Int.le_refl 0) (by decide) h3 hb
 have := (hb (0 : Int).toNat).1
 exact ⟨h1, by omega⟩
structure PN (n0 : Nat) (w : World) (p : Pv) : Prop where
 v : I.BR w p.vo p.vn p.vc p.P.vec
 c : J.BR w p.co p.cn p.cc p.P.cloud
 vb : ∀ k, U.blk p.vo = some k → n0 ≤ k
 cb : ∀ k, U.blk p.co = some k → n0 ≤ k
 lv : p.vn ≤ 16
 lc : p.cn ≤ 16000000015
theorem PN.keep {n0 : Nat} {p : Pv} (h : PN n0 w p) (hk : ∀ k, n0 ≤ k → k < w.heap.size → w'.heap[k]? = w.heap[k]?) : PN n0 w' p :=
 ⟨h.v.keep fun k e => hk k (h.vb k e) (h.v.lt k e), h.c.keep fun k e => hk k (h.cb k e) (h.c.lt k e), h.vb, h.cb, h.lv, h.lc⟩
theorem PN.below {n0 : Nat} {p : Pv} (h : PN n0 w p) (hb : Below w.heap.size w w') : PN n0 w' p := h.keep fun k _ hk => hb.block k hk
theorem PN.mono {n0 n1 : Nat} {p : Pv} (h : PN n0 w p) (hn : n1 ≤ n0) : PN n1 w p := ⟨h.v, h.c, fun k e => Nat.le_trans hn (h.vb k e), fun k e => Nat.le_trans hn (h.cb k e), h.lv, h.lc⟩
theorem PN.src {n0 : Nat} {p : Pv} (h : PN n0 w p) : PSrc w p := ⟨⟨h.v.len, h.v.at.1, h.v.at.2⟩, h.c.src (by have := h.lc; omega), by have := h.lv; omega⟩
def GcP (w : World) (g gv : Nat) (Z : List Int) (r : Ending) (w' : World) : Prop :=
 (w'.os = w.os ∧ w'.tape = w.tape ∧ w'.output = w.output ∧ w.heap.size ≤ w'.heap.size ∧ ∀ k, k < w.heap.size → k ≠ g → k ≠ gv → w'.heap[k]? = w.heap[k]?) ∧
 ((∃ p R so sc, rdPast Z = some (p.P, R) ∧ r = .returned (.tuple #[]) ∧ PN w.heap.size w' p ∧ PBox w' gv p ∧ U.Rdr w' g so R.length sc 0 false) ∨
  (rdPast Z = none ∧ r = .panicked (U.ups g) ∧ ∃ e, e ≠ 0 ∧ U.Rdr w' g none 0 0 e false))
abbrev rdF : Value := .func (.func 45) #[] #[]
set_option maxRecDepth 100000 in
theorem getc_any {B : Option Nat} (R : RB w g Z B) (hB : ∀ k, B = some k → k < w.heap.size) (hO : U.Oc Z) (hr : w.heap[gr]? = some (.cells #[rdF] 80 (0, 0))) (M : PBox w gv pv0) (hn : gv ≠ g) : Calls Tryz.prog 75 #[U.ptr g, U.ptr gr, U.ptr gv] w fun r w' => GcP w g gv Z r w' := by
 have HC := hide (rpast_any R hB)
 have HM := hide M
 have HG : Hid (gv ≠ g ∧ g < w.heap.size) := ⟨hn, R.lt⟩
 have HO := hide hO
 have c0 := box_cell hr
 clear R hB M hn hr hO
 go_enter Tryz.func75, Tryz.ntmps75
 go_wp2_with fail
 refine HC.out.mono ?_
 rintro r w2 (⟨hp, rfl, e, he, RR, K⟩ | ⟨P, R, vo, vc, co, cc, hp, rfl, RR, K, hv, hc, nv, nc⟩)
 ·have HE : Hid (GcP w g gv Z (.panicked (U.ups g)) w2) := ⟨⟨K.os, K.tape, K.output, K.size, fun k hk h1 _ => K.block k hk h1⟩, Or.inr ⟨hp, rfl, e, he, RR⟩⟩
  clear hp he RR K HC
  go_wp2_with fail
  exact ⟨rfl, HE.out⟩
 ·have M2 : PBox w2 gv pv0 := (K.block gv HM.out.lt HG.out.1).trans HM.out
  have hs := run_stP (p' := ⟨vo, P.vec.length, vc, co, P.cloud.length, cc, P⟩) M2
  have hlt := HM.out.lt
  have hroom := rd_room HO.out hp
  have HE : Hid (GcP w g gv Z (.returned (.tuple #[])) (w2.setRow gv (PC ⟨vo, P.vec.length, vc, co, P.cloud.length, cc, P⟩))) := by
   obtain ⟨so, sn, sc, RL, -⟩ := RR
   have hN : PN w.heap.size w2 ⟨vo, P.vec.length, vc, co, P.cloud.length, cc, P⟩ := ⟨hv, hc, nv, nc, hroom.1, hroom.2⟩
   refine ⟨⟨K.os, K.tape, K.output, by simpa [World.setRow] using K.size, fun k hk h1 h2 => (setRow_other _ _ _ _ h2).trans (K.block k hk h1)⟩, Or.inl ⟨⟨vo, P.vec.length, vc, co, P.cloud.length, cc, P⟩, R, so, sc, hp, rfl, hN.keep (fun k h1 h2 => setRow_other _ _ _ _ (by omega)), setRow_heap _ _ _ _ _ _ M2, ?_⟩⟩
   have := RL.len
   rw [this]
   exact (setRow_other _ _ _ _ (Ne.symm HG.out.1)).trans RL.r
  clear hp hv hc nv nc RR K M2 hlt HC hroom
  go_wp2_with fail
  go_end0
  exact HE.out
def GpA (w w' : World) (Z : List Int) (r : Ending) : Prop := Below w.heap.size w w' ∧
 ((∃ p, InForm p.P ∧ Z = pastB p.P ∧ r = .returned (.tuple #[PV p, .int .i64 0]) ∧ PN w.heap.size w' p) ∨
  ((∀ P, InForm P → Z ≠ pastB P) ∧ r = .returned (.tuple #[PV pv0, .int .i64 8])))
def RpA (w1 w' : World) (gv : Nat) (Z : List Int) (err : Int) : Prop := U.Kg w1 w' gv ∧
 ((∃ p R, rdPast Z = some (p.P, R) ∧ err = U.endA R.length ∧ PN w1.heap.size w' p ∧ PBox w' gv p) ∨ (rdPast Z = none ∧ err ≠ 0))
set_option maxRecDepth 100000 in
theorem read_past (ro : Option Addr) (rn rc : Nat) (Z : List Int) (gr gv : Nat) (w1 : World) (S : U.Src w1 ro rn rc Z) (hcap : rn ≤ rc) (hz : rn ≤ 140737488355328) (hr : w1.heap[gr]? = some (.cells #[rdF] 80 (0, 0))) (M : PBox w1 gv pv0) : Calls Tryz.prog 74 #[.slice ro rn rc, .func (.func 75) #[] #[U.ptr gr, U.ptr gv]] w1 fun r w' => ∃ err, r = .returned (.int .i64 err) ∧ RpA w1 w' gv Z err := by
 have hcf : ∀ (args : Array Value) (w : World), (callFunc 75 args).run Tryz.prog w = .ok (.enter 75 args) w := fun _ _ => rfl
 have G1 := U.beg w1 ro rn rc
 obtain ⟨W1, hW1⟩ : ∃ W1, U.W0 w1 ro rn rc = W1 := ⟨_, rfl⟩
 rw [hW1] at G1
 have hb := G1.b
 have hsz := G1.n.2
 have hlt : rn ≠ 0 → ∀ k, U.blk ro = some k → k < w1.heap.size := fun h0 k e => by
  obtain ⟨ad, ha, hc⟩ := U.cell_at S 0 (by omega)
  have := World.block_lt_of_cell? _ _ hc
  rw [U.block_of_add] at this
  rw [ha] at e
  have : ad.block = k := Option.some.inj e
  omega
 have hM1 := M.lt
 have hr1 := some_lt hr
 have hf : Calls Tryz.prog 75 #[U.ptr (w1.heap.size + 1), U.ptr gr, U.ptr gv] W1 fun r w' => GcP W1 (w1.heap.size + 1) gv Z r w' := by
  have hRL : U.RL W1 (w1.heap.size + 1) ro rn rc Z := ⟨G1.r, S.below hb, hcap, by omega, fun h0 e => by have := hlt h0 _ e; omega⟩
  by_cases h0 : rn = 0
  ·have hZ : Z = [] := List.eq_nil_of_length_eq_zero (by rw [S.1]; exact h0)
   exact getc_any (B := none) ⟨ro, rn, rc, hRL, fun h => absurd hZ h⟩ (fun k e => by cases e) S.2.2.2 ((G1.b.block gr hr1).trans hr) (M.below G1.b) (by omega)
  ·exact getc_any ⟨ro, rn, rc, hRL, fun _ => rfl⟩ (fun k e => by have := hlt h0 k e; omega) S.2.2.2 ((G1.b.block gr hr1).trans hr) (M.below G1.b) (by omega)
 have hR := U.read_any ro rn rc 75 #[U.ptr gr, U.ptr gv] (GcP W1 (w1.heap.size + 1) gv Z) w1 hcf (by rw [hW1]; exact hf) (by
  rintro e w2 ⟨⟨-, -, -, -, K⟩, h⟩
  refine ⟨?_, (K _ (by omega) (by omega) (by omega)).trans G1.v, (K _ (by omega) (by omega) (by omega)).trans G1.e⟩
  rcases h with ⟨_, _, _, _, _, rfl, _, _, R⟩ | ⟨_, rfl, e, he, R⟩
  ·exact ⟨_, _, .calm R⟩
  ·exact ⟨_, _, .up R he⟩)
 refine hR.mono ?_
 rintro r w' ⟨e2, w2, gave, err, ⟨⟨k1, k2, k3, k4, K⟩, h⟩, hE, rfl, F⟩
 refine ⟨err, rfl, ⟨F.os.trans (k1.trans hb.os), F.tape.trans (k2.trans hb.tape), F.output.trans (k3.trans hb.output), Nat.le_trans hb.size (Nat.le_trans k4 F.size), fun k hk hne => (F.block k (by omega) (by omega) (by omega)).trans ((K k (by omega) (by omega) hne).trans (hb.block k hk))⟩, ?_⟩
 rcases h with ⟨p, R, so, sc, hp, rfl, hM, MB, RR⟩ | ⟨hp, rfl, e, he, RR⟩
 ·refine Or.inl ⟨p, R, hp, ?_, (hM.keep (fun k h1 h2 => F.block k h2 (by omega) (by omega))).mono (by omega), (F.block gv MB.lt (by omega) (by omega)).trans MB⟩
  cases hE with
  | calm R' =>
   obtain ⟨h1, -⟩ := U.rdr_inj RR R'
   rw [h1]
 ·refine Or.inr ⟨hp, ?_⟩
  cases hE with
  | up R' he' => exact he'
theorem res2P {fn : Func} {p q : Tmp} {m : Pv} {v : Value} (h : fn.results = #[.cell p 25, .tmp q]) {tmps : Array Value} (hp : tmps.getD p undef = .pointer (some ⟨g, 0, none⟩)) (hq : tmps.getD q undef = v) (A : PBox w g m) :
  (results fn tmps).run Tryz.prog w = .ok (.tuple #[PV m, v]) w := by
 have hl := run_lvP A.at
 simp only [results, h]
 rw [Array.getD_eq_getD_getElem?] at hp hq
 simp [hp, hq, asAddr, hl]
theorem GpA.bad (b : Below w.heap.size w w') (h : ∀ p, InForm p → rdPast Z ≠ some (p, [])) : GpA w w' Z (.returned (.tuple #[PV pv0, .int .i64 8])) :=
 ⟨b, .inr ⟨fun P hP e => h P hP (by rw [e, ← List.append_nil (pastB P)]; exact rdPast_to hP []), rfl⟩⟩
set_option maxRecDepth 100000 in
set_option maxHeartbeats 4000000 in
theorem packGet_any (ro : Option Addr) (rn rc : Nat) (Z : List Int) (w : World) (S : U.Src w ro rn rc Z) (hcap : rn ≤ rc) (hz : rn ≤ 140737488355328) : Calls Tryz.prog 44 #[.slice ro rn rc, rdF, .func (.func 30) #[] #[]] w fun r w' => GpA w w' Z r := by
 have hmf : ∀ (fn : Fn) (first cap : Array Value) (w : World), (Instr.makeFunc fn first cap).run Tryz.prog w = .ok (.func fn first cap) w := fun _ _ _ _ => rfl
 obtain ⟨g1, hg1⟩ : ∃ g1, w.heap.size = g1 := ⟨_, rfl⟩
 have b1 := below_new w (.cells #[rdF] 80)
 have x1 := heap_alloc_new w (.cells #[rdF] 80)
 have s1 := World.size_alloc w (.cells #[rdF] 80)
 obtain ⟨w1, hw1⟩ : ∃ w1, w.alloc (.cells #[rdF] 80) = w1 := ⟨_, rfl⟩
 rw [hw1] at b1 x1 s1
 have b2 := below_new w1 (.cells (PC pv0) 25)
 have x2 := pbox_new w1 pv0
 have s2 := World.size_alloc w1 (.cells (PC pv0) 25)
 obtain ⟨w2, hw2⟩ : ∃ w2, w1.alloc (.cells (PC pv0) 25) = w2 := ⟨_, rfl⟩
 rw [hw2] at b2 x2 s2
 have b3 := below_new w2 (.cells (PC pv0) 25)
 have x3 := pbox_new w2 pv0
 have s3 := World.size_alloc w2 (.cells (PC pv0) 25)
 obtain ⟨w3, hw3⟩ : ∃ w3, w2.alloc (.cells (PC pv0) 25) = w3 := ⟨_, rfl⟩
 rw [hw3] at b3 x3 s3
 have b4 := below_new w3 (.cells (PC pv0) 25)
 have x4 := pbox_new w3 pv0
 have s4 := World.size_alloc w3 (.cells (PC pv0) 25)
 obtain ⟨w4, hw4⟩ : ∃ w4, w3.alloc (.cells (PC pv0) 25) = w4 := ⟨_, rfl⟩
 rw [hw4] at b4 x4 s4
 rw [s1] at x2 s2
 rw [s2] at x3 s3
 rw [s3] at x4 s4
 rw [hg1] at x1 x2 x3 x4 s1 s2 s3 s4
 have bt := b1.trans ((b2.trans ((b3.trans (b4.mono b3.size)).mono b2.size)).mono b1.size)
 have b34 := b3.trans (b4.mono b3.size)
 have B2 : PBox w4 (g1 + 1) pv0 := x2.below b34
 have B3 : PBox w4 (g1 + 1 + 1) pv0 := x3.below b4
 have R4 : w4.heap[g1]? = some (.cells #[rdF] 80 (0, 0)) := ((b2.trans (b34.mono b2.size)).block g1 (by omega)).trans x1
 have HR := hide (read_past ro rn rc Z g1 (g1 + 1 + 1) w4 (S.below bt) hcap hz R4 B3)
 have HM : Hid (PBox w4 (g1 + 1) pv0 ∧ PBox w4 (g1 + 1 + 1 + 1) pv0 ∧ Below w.heap.size w w4 ∧ w.heap.size = g1 ∧ U.Oc Z) := ⟨B2, x4, bt, hg1, S.2.2.2⟩
 clear S b1 b2 b3 b4 x1 x2 x3 x4 bt b34 B2 B3 R4 hcap hz
 go_enter Tryz.func44, Tryz.ntmps44
 go_wp2_with fail
 clear hw1 hw2 hw3 hw4 s1 s2 s3 s4 hg1
 refine HR.out.mono ?_
 rintro r w5 ⟨err, rfl, K5, h⟩
 have M2 : PBox w5 (g1 + 1) pv0 := (K5.block _ HM.out.1.lt (by omega)).trans HM.out.1
 have M4 : PBox w5 (g1 + 1 + 1 + 1) pv0 := (K5.block _ HM.out.2.1.lt (by omega)).trans HM.out.2.1
 have b5 : Below w.heap.size w w5 := ⟨K5.os.trans HM.out.2.2.1.os, K5.tape.trans HM.out.2.2.1.tape, K5.output.trans HM.out.2.2.1.output, Nat.le_trans HM.out.2.2.1.size K5.size, fun k hk => (K5.block k (Nat.lt_of_lt_of_le hk HM.out.2.2.1.size) (by have := HM.out.2.2.2.1; omega)).trans (HM.out.2.2.1.block k hk)⟩
 have HM2 := hide M2
 have HM4 := hide M4
 have HB5 := hide b5
 have HK5 := hide K5
 clear HR M2 M4 b5 K5
 by_cases he : err = 0
 ·subst he
  obtain ⟨p, hp, hMl, MB⟩ : ∃ p, rdPast Z = some (p.P, []) ∧ PN w4.heap.size w5 p ∧ PBox w5 (g1 + 1 + 1) p := by
   rcases h with ⟨p, R, hp, hR, hMl, MB⟩ | ⟨_, h0⟩
   ·cases R with
    | nil => exact ⟨p, hp, hMl, MB⟩
    | cons x R => simp [U.endA] at hR
   ·exact absurd rfl h0
  have l5 := run_ldP MB.at
  have HP := hide hp
  have HMl := hide hMl
  have HMB := hide MB
  clear h hp hMl MB
  go_wp2_with fail
  refine (checkPast_any p _ HMl.out.src).mono ?_
  rintro e w6 ⟨x, rfl, hx, b6⟩
  have HB6 := hide (HB5.out.trans (b6.mono HB5.out.size))
  rcases hx with ⟨rfl, hx⟩ | ⟨rfl, hx⟩
  ·have l6 := run_ldP (HM4.out.below b6).at
   have t6 := run_stP (p' := pv0) (HM2.out.below b6)
   have HE : Hid (GpA w (w6.setRow (g1 + 1) (PC pv0)) Z (.returned (.tuple #[PV pv0, .int .i64 8]))) := GpA.bad (below_setRow HB6.out (by have := HM.out.2.2.2.1; omega)) (fun q hq e => by
    rw [HP.out] at e
    simp only [Option.some.injEq, Prod.mk.injEq, and_true] at e
    rw [e] at hx
    exact hx hq)
   have HX : Hid (PBox (w6.setRow (g1 + 1) (PC pv0)) (g1 + 1) pv0) := setRow_heap _ _ _ _ _ _ (HM2.out.below b6)
   clear hx b6 l5
   go_wp2_with fail
   refine bodyPost_ret (res2P rfl rfl rfl HX.out) rfl ?_
   exact HE.out
  ·have l6 := run_ldP (HMB.out.below b6).at
   have t6 := run_stP (p' := p) (HM2.out.below b6)
   have HE : Hid (GpA w (w6.setRow (g1 + 1) (PC p)) Z (.returned (.tuple #[PV p, .int .i64 0]))) := by
    have e1 := (rdPast_of HM.out.2.2.2.2 HP.out).1
    rw [List.append_nil] at e1
    have h2 := HM.out.2.1.lt
    have h3 := HM.out.2.2.2.1
    refine ⟨below_setRow HB6.out (by omega), .inl ⟨p, hx, e1, rfl, ((HMl.out.below b6).keep (fun k h1 h2 => setRow_other _ _ _ _ (by omega))).mono (by omega)⟩⟩
   have HX : Hid (PBox (w6.setRow (g1 + 1) (PC p)) (g1 + 1) p) := setRow_heap _ _ _ _ _ _ (HM2.out.below b6)
   clear hx b6 l5
   go_wp2_with fail
   refine bodyPost_ret (res2P rfl rfl rfl HX.out) rfl ?_
   exact HE.out
 ·have hne : (err != 0) = true := by simpa using he
  have l6 := run_ldP HM4.out.at
  have t6 := run_stP (p' := pv0) HM2.out
  have HE : Hid (GpA w (w5.setRow (g1 + 1) (PC pv0)) Z (.returned (.tuple #[PV pv0, .int .i64 8]))) := GpA.bad (below_setRow HB5.out (by have := HM.out.2.2.2.1; omega)) (fun q hq e => by
   rcases h with ⟨p, R, hp, hR, hMl, MB⟩ | ⟨hp, h0⟩
   ·rw [hp] at e
    simp only [Option.some.injEq, Prod.mk.injEq] at e
    rw [e.2] at hR
    exact he hR
   ·rw [hp] at e; cases e)
  have HX : Hid (PBox (w5.setRow (g1 + 1) (PC pv0)) (g1 + 1) pv0) := setRow_heap _ _ _ _ _ _ HM2.out
  clear h he
  go_wp2_with fail
  refine bodyPost_ret (res2P rfl rfl rfl HX.out) rfl ?_
  exact HE.out
set_option maxRecDepth 100000 in
theorem getPast_any (ro : Option Addr) (rn rc : Nat) (Z : List Int) (w : World) (S : U.Src w ro rn rc Z) (hcap : rn ≤ rc) (hz : rn ≤ 140737488355328) : Calls Tryz.prog 18 #[.slice ro rn rc] w fun r w' => GpA w w' Z r := by
 have b1 := below_new w (.cells (PC pv0) 25)
 have x1 := pbox_new w pv0
 have s1 := World.size_alloc w (.cells (PC pv0) 25)
 obtain ⟨w1, hw1⟩ : ∃ w1, w.alloc (.cells (PC pv0) 25) = w1 := ⟨_, rfl⟩
 obtain ⟨g1, hg1⟩ : ∃ g1, w.heap.size = g1 := ⟨_, rfl⟩
 rw [hw1] at b1 x1 s1
 rw [hg1] at x1
 have HC := hide (packGet_any ro rn rc Z w1 (S.below b1) hcap hz)
 have HX := hide x1
 have HB : Hid (Below w.heap.size w w1 ∧ w.heap.size = g1) := ⟨b1, hg1⟩
 clear S hcap hz b1 x1 s1
 go_enter Tryz.func18, Tryz.ntmps18
 go_wp2_with fail
 clear hw1 hg1
 refine HC.out.mono ?_
 rintro r w2 ⟨b2, h⟩
 have HB2 := hide (HB.out.1.trans (b2.mono HB.out.1.size))
 rcases h with ⟨p, hI, hZ, rfl, hN⟩ | ⟨hn, rfl⟩
 ·have t2 := run_stP (p' := p) (HX.out.below b2)
  have HE : Hid (GpA w (w2.setRow g1 (PC p)) Z (.returned (.tuple #[PV p, .int .i64 0]))) := by
   have h1 := HX.out.lt
   have h2 := HB.out.2
   have h3 := HB.out.1.size
   exact ⟨below_setRow HB2.out (by omega), .inl ⟨p, hI, hZ, rfl, (hN.keep (fun k h1 h2 => setRow_other _ _ _ _ (by omega))).mono (by omega)⟩⟩
  have HX2 : Hid (PBox (w2.setRow g1 (PC p)) g1 p) := setRow_heap _ _ _ _ _ _ (HX.out.below b2)
  clear hI hZ hN b2
  go_wp2_with fail
  refine bodyPost_ret (res2P rfl rfl rfl HX2.out) rfl ?_
  exact HE.out
 ·have t2 := run_stP (p' := pv0) (HX.out.below b2)
  have HE : Hid (GpA w (w2.setRow g1 (PC pv0)) Z (.returned (.tuple #[PV pv0, .int .i64 8]))) := by
   have h2 := HB.out.2
   exact ⟨below_setRow HB2.out (by omega), .inr ⟨hn, rfl⟩⟩
  have HX2 : Hid (PBox (w2.setRow g1 (PC pv0)) g1 pv0) := setRow_heap _ _ _ _ _ _ (HX.out.below b2)
  clear hn b2
  go_wp2_with fail
  refine bodyPost_ret (res2P rfl rfl rfl HX2.out) rfl ?_
  exact HE.out
end Go.Proofs.YtphohmoibnoeaaaGreat
namespace Go.Proofs.YtphohmoibnoeaaaGreat.M
open Go.RowKit
variable {w w' w2 : World} {g : Nat}
def rcs (L : List Rc) : List Value := (L.map (fun r => (ReC (mkR r)).toList)).flatten
theorem rcs_append (L R : List Rc) : rcs (L ++ R) = rcs L ++ rcs R := by simp [rcs]
theorem rcs_one (r : Rc) : rcs [r] = (ReC (mkR r)).toList := by simp [rcs]
theorem infoRe : (Tryz.prog.info? 61).map (fun i => (i.zero, i.size, i.bytes)) = some (some (.agg #[.string ⟨#[]⟩, .slice none 0 0, .slice none 0 0]), 3, 64) := by kernel_rfl
theorem rcs_at (L : List Rc) : ∀ (t j : Nat), t < L.length → j < 3 → (rcs L)[t * 3 + j]? = (ReC (mkR (L.getD t rc0))).toList[j]? := by
 induction L with
 | nil => intro t j h; simp at h
 | cons a l ih =>
  intro t j ht hj
  have e : rcs (a :: l) = (ReC (mkR a)).toList ++ rcs l := by simp [rcs]
  have hl : (ReC (mkR a)).toList.length = 3 := rfl
  rw [e]
  cases t with
  | zero =>
   rw [List.getElem?_append_left (by omega), Nat.zero_mul, Nat.zero_add]
   rfl
  | succ t =>
   rw [List.getElem?_append_right (by omega), hl, show (t + 1) * 3 + j - 3 = t * 3 + j by omega]
   exact ih t j (by simpa using ht) hj
def BR (w : World) (ao : Option Addr) (n cap : Nat) (Z : List Rc) : Prop := w.ownsRow 0 61 3 (.slice ao n cap) n (rcs Z)
theorem rcs_len3 (Z : List Rc) : (rcs Z).length = Z.length * 3 := by induction Z with
 | nil => rfl
 | cons a t ih => simp [rcs, ReC] at ih ⊢; omega
theorem BR.len {ao : Option Addr} {n cap : Nat} {Z : List Rc} (h : BR w ao n cap Z) : Z.length = n := by
 have := h.1
 rw [rcs_len3] at this
 omega
theorem BR.nil (w : World) : BR w none 0 0 [] := World.ownsRow_nil _ _ _ _
theorem BR.out {n : Nat} {Z : List Rc} {v : Value} (h : w.ownsRow 0 61 3 v n (rcs Z)) : ∃ ao cap, v = .slice ao n cap ∧ BR w ao n cap Z := by
 rcases h.2 with ⟨h0, h00⟩ | ⟨q, cap2, cur, hv, r⟩
 ·subst h0 h00
  exact ⟨none, 0, rfl, h⟩
 ·subst hv
  exact ⟨_, _, rfl, h⟩
theorem BR.keep {ao : Option Addr} {n cap : Nat} {Z : List Rc} (h : BR w ao n cap Z) (hk : ∀ k, U.blk ao = some k → w'.heap[k]? = w.heap[k]?) : BR w' ao n cap Z := by
 refine ⟨h.1, ?_⟩
 rcases h.2 with h0 | ⟨q, cap2, cur, hv, hq, hh, r⟩
 ·exact Or.inl h0
 ·simp only [Value.slice.injEq, true_and] at hv
  obtain ⟨rfl, rfl⟩ := hv
  exact Or.inr ⟨q, cap, cur, rfl, hq, (hk q rfl).trans hh, r⟩
theorem BR.lt {ao : Option Addr} {n cap : Nat} {Z : List Rc} (h : BR w ao n cap Z) (k : Nat) (hk : U.blk ao = some k) : k < w.heap.size := by
 rcases h.2 with h0 | ⟨q, cap2, cur, hv, hq, hh, r⟩
 ·simp only [Value.slice.injEq] at h0
  rw [h0.1.1] at hk
  cases hk
 ·simp only [Value.slice.injEq, true_and] at hv
  obtain ⟨rfl, rfl⟩ := hv
  have : q = k := Option.some.inj hk
  subst this
  exact (Array.getElem?_eq_some_iff.1 hh).1
theorem BR.new {ao : Option Addr} {n cap : Nat} {Z : List Rc} (h : BR w ao n cap Z) (o : Obj) : BR (w.alloc o) ao n cap Z := h.keep fun k hk => Below.heap_alloc w o k (h.lt k hk)
theorem BR.app1 {ao : Option Addr} {n cap : Nat} {Z : List Rc} (h : BR w ao n cap Z) (e : Rc) (C : Array Value) (hC : C = ReC (mkR e)) (hb : n + 1 ≤ 2199023255552)
  {ops : Array Oper} {rest : List Oper} {o : Oper} {a : Act} {Q : Exit → Act → World → Prop} (hgd : o.guard = none) (s y : Operand) (ho : o.op = .call { callee := .builtin .append, args := #[s, y], argTypes := #[27, 27] })
  (hs : a.eval s = .slice ao n cap) (hy : a.eval y = .slice (some ⟨w.heap.size, 0, none⟩) 1 1)
  (hK : ∀ (bo : Option Addr) (cap2 : Nat) (w2 : World), BR w2 bo (n + 1) cap2 (Z ++ [e]) → U.Ap w w2 ao bo → wpList Tryz.prog ops Q rest (a.put o.dst (.slice bo (n + 1) cap2)) w2) :
  wpList Tryz.prog ops Q (o :: rest) a (w.alloc (.cells C 61)) := by
 subst hC
 obtain ⟨i0, hi, hz0, hz1, hz2⟩ := info_parts infoRe
 refine wpList_append_own_at _ hgd s y 27 ho 0 61 i0 (.agg #[.string ⟨#[]⟩, .slice none 0 0, .slice none 0 0]) 3 64 Tryz.underlying27 hi hz0 hz1 hz2 rfl (by decide) _ n (rcs Z) hs (h.new _) ⟨w.heap.size, 0, none⟩ 1 1 (ReC (mkR e)).toList hy (by simp [ReC]) ?_ ?_ (by unfold maxLen; omega) (by omega) (Nat.zero_le _) ?_
 ·intro j u hj
  rw [Addr.add_lit, Nat.zero_add, World.cell?_alloc_new]
  simpa using hj
 ·intro u hu
  exact ReC_one (mkR e) u hu
 ·intro v' w2 hown hgrow _ hat
  have e1 : rcs Z ++ (ReC (mkR e)).toList = rcs (Z ++ [e]) := by rw [rcs_append, rcs_one]
  rw [e1] at hown
  obtain ⟨bo, c2, rfl, hB⟩ := BR.out hown
  rw [U.ownBlock_blk] at hgrow
  rw [U.ownBlock_blk, U.ownBlock_blk] at hat
  refine hK bo c2 w2 hB ((U.Ap.new w _ ao).trans ⟨hgrow, ?_⟩)
  rcases hat with x | x
  ·exact Or.inl x
  ·exact Or.inr ⟨_, x, Nat.le_refl _⟩
theorem BR.src {ao : Option Addr} {n cap : Nat} {Z : List Rc} (h : BR w ao n cap Z) (hb : n ≤ 2199023255552) (hs : ∀ r ∈ Z, RcOk w r) : RcS w ao n cap Z := by
 have hl := h.len
 rcases h.2 with ⟨h0, h00⟩ | ⟨q, cap2, cur, hv, r⟩
 ·simp only [Value.slice.injEq] at h0
  obtain ⟨rfl, e0, rfl⟩ := h0
  exact ⟨hl, fun _ => h00, (fun ad h => by cases h), hs, hb⟩
 ·simp only [Value.slice.injEq, true_and] at hv
  obtain ⟨rfl, rfl⟩ := hv
  have hc : ∀ t j, t < n → j < 3 → w.cell? ⟨q, t * 3 + j, none⟩ = (ReC (mkR (Z.getD t rc0))).toList[j]? := fun t j ht hj => by
   have := World.ownsRow.cellAt (show w.ownsRow 0 61 3 (.slice (some ⟨q, 0, none⟩) n cap) n (rcs Z) from h) (t * 3 + j) (by omega)
   rw [this]
   exact rcs_at Z t j (by omega) hj
  refine ⟨hl, fun h => (by cases h), fun ad e t ht => ?_, hs, hb⟩
  obtain rfl := Option.some.inj e
  refine ⟨?_, ?_, ?_⟩
  ·rw [Addr.add_lit, Nat.zero_add]; exact hc t 0 ht (by omega)
  ·rw [Addr.add_lit, Addr.add_lit, Nat.zero_add]; exact hc t 1 ht (by omega)
  ·rw [Addr.add_lit, Addr.add_lit, Nat.zero_add]; exact hc t 2 ht (by omega)
end Go.Proofs.YtphohmoibnoeaaaGreat.M
namespace Go.Proofs.YtphohmoibnoeaaaGreat
open Go.RowKit
attribute [local go_sem ↓] ldP_eq stP_eq ldRe_eq stRe_eq
attribute [local go_sem] cells_PV PC_size cells_ReV ReC_size zero_ReC

theorem take_snocR (l : List Rc) (k : Nat) (h : k < l.length) : l.take (k + 1) = l.take k ++ [l.getD k rc0] := by
 rw [List.take_add_one, List.getElem?_eq_getElem h, List.getD_eq_getElem?_getD, List.getElem?_eq_getElem h]; rfl
theorem rec_pre (L : List Rc) (k : Nat) : (recB (plR (L.take k))).length ≤ (recB (plR L)).length := by
 have e : plR L = plR (L.take k) ++ plR (L.drop k) := by unfold plR; rw [← List.map_append, List.take_append_drop]
 rw [e]
 unfold recB
 rw [List.flatMap_append, List.length_append]
 omega
set_option maxRecDepth 100000 in
set_option maxHeartbeats 3200000 in
theorem wrecords_any {w0 W : World} {gw : Nat} {ao : Option Addr} {n cap : Nat} {Z : List Int} {F : List (Nat × Obj)} (h : PW w0 W gw ao n cap Z F) (so : Option Addr) (sn sc : Nat) (L : List Rc) (hS : RcS w0 so sn sc L) (hI : OkR L sn) (hn : n ≤ 1000) (hlen : (recB (plR L)).length ≤ 40000000000000) :
  Calls Tryz.prog 40 #[.agg #[U.ptr gw], .slice so sn sc] W fun e w' => e = .returned (.tuple #[]) ∧ ∃ bo m cc, PW w0 w' gw bo m cc (Z ++ recsB (plR L)) F := by
 have P1 := h.add (.cells #[U.ptr gw] 68)
 obtain ⟨b2, hb2⟩ : ∃ b2, W.heap.size = b2 := ⟨_, rfl⟩
 obtain ⟨F2, hF2⟩ : ∃ F2, ((b2, Obj.cells #[U.ptr gw] 68) :: F) = F2 := ⟨_, rfl⟩
 obtain ⟨W1, hW1⟩ : ∃ W1, W.alloc (.cells #[U.ptr gw] 68) = W1 := ⟨_, rfl⟩
 rw [hW1, hb2, hF2] at P1
 have HP1 := hide P1
 have HC : Hid (∀ V bo m cc Y G, PW w0 V gw bo m cc Y (G ++ F2) → V.cell? ⟨b2, 0, none⟩ = some (U.ptr gw) ∧ RcS V so sn sc L) := fun V bo m cc Y G hV => by
  refine ⟨box_cell (hV.keep (b2, .cells #[U.ptr gw] 68) (by rw [← hF2]; simp)).1, hS.below hV.wk.bel⟩
 have HSub : Hid (∀ x ∈ F, x ∈ F2) := fun x hx => by rw [← hF2]; exact List.mem_cons_of_mem _ hx
 have HI := hide hI
 have HSw := hide hS
 have HN : Hid (n ≤ 1000 ∧ (recB (plR L)).length ≤ 40000000000000) := ⟨hn, hlen⟩
 have HZl := hide h.wk.len
 have HLl : Hid (L.length = sn) := hS.len
 have hsn := hS.big
 obtain ⟨c2, -⟩ := HC.out _ _ _ _ _ [] P1
 clear P1 h hI hS hn hlen
 go_enter Tryz.func40, Tryz.ntmps40
 go_wp2_with fail
 clear hW1
 refine (U.wnum_any ao n cap Z false sn _ HP1.out.wk.w (fun e => by cases e) (by omega) (by have := HN.out; omega)).mono ?_
 rintro e W2 ⟨rfl, hp2⟩
 obtain ⟨bo, m, cc, P2⟩ := HP1.out.put hp2
 have HP2 := hide P2
 obtain ⟨d2, -⟩ := HC.out _ _ _ _ _ [] P2
 obtain ⟨B0, hB0⟩ : ∃ B0, Z ++ U.numB sn = B0 := ⟨_, rfl⟩
 have HB0 : Hid (B0.length ≤ 1100 ∧ B0 ++ recB (plR L) = Z ++ recsB (plR L)) := by
  have h4 := U.numB_len 9 sn (by omega)
  have h5 := HZl.out
  have h6 := HN.out
  refine ⟨?_, ?_⟩
  ·rw [← hB0, List.length_append]
   omega
  ·rw [← hB0]
   unfold recsB
   rw [plR_len, HLl.out, List.append_assoc]
 rw [hB0] at HP2
 clear c2 hp2 P2 hB0 HP1
 go_wp2_with fail
 go_loopw [13] (fun i wr => ∃ j : Nat, j ≤ sn ∧ i = .int .i64 j ∧ Hid (∃ bo m cc, PW w0 wr gw bo m cc (B0 ++ recB (plR (L.take j))) F2)) (fun i _ => sn - (intOf i).toNat)
 case atStart => exact ⟨0, Nat.zero_le _, rfl, bo, m, cc, by
  show PW w0 _ gw bo m cc (B0 ++ []) F2
  rw [List.append_nil]
  exact HP2.out⟩
 case round =>
  obtain ⟨j, hj, rfl, HPj⟩ := hrel
  rename World => wv
  obtain ⟨bo8, m8, cc8, P8⟩ := HPj.out
  obtain ⟨e2, S8⟩ := HC.out _ _ _ _ _ [] P8
  by_cases hlt : j < sn
  ·obtain ⟨ad, rfl, A8⟩ := S8.at j hlt
   have hOw := HSw.out.okAt j hlt
   have hOk := (HI.out j hlt).1
   have hTk := take_snocR L j (by have := HLl.out; omega)
   obtain ⟨s, Hs⟩ : ∃ s, Hid (L.getD j rc0 = s) := ⟨_, rfl⟩
   rw [Hs.out] at A8 hOw hOk hTk
   have HTk : Hid (recB (plR (L.take (j + 1))) = recB (plR (L.take j)) ++ (txB s.s ++ pastB s.p.P)) := by show _ = _; rw [hTk, plR_snoc, recB_snoc]
   have HLn8 : Hid (m8 ≤ 40000000001100) := by
    show _ ≤ _
    have h1 := P8.wk.len
    have h2 := rec_pre L j
    have h3 := HB0.out.1
    have h4 := HN.out.2
    rw [List.length_append] at h1
    omega
   obtain ⟨gs, hgs⟩ : ∃ gs, wv.heap.size = gs := ⟨_, rfl⟩
   obtain ⟨w9, hst9, X9, b9, -⟩ := madeRe wv (mkR s) gs hgs
   have P9 := P8.addB b9 (g := gs) (by omega) X9
   have hld := run_laRe A8
   obtain ⟨x2, -⟩ := HC.out _ _ _ _ _ [_] P9
   have y0 := X9.sk
   have HP9 := hide P9
   have HQ : Hid (PSrc w0 s.p ∧ s.s.size ≤ 24 ∧ InForm s.p.P) := ⟨hOw.1, sku_len hOk.1, hOk.2.1⟩
   have Hlt := hide hlt
   clear P8 S8 A8 hOw hOk hTk X9 b9 P9 e2 HPj d2
   go_wp2_with fail
   refine (U.wtext_any bo8 m8 cc8 _ false s.s _ HP9.out.wk.w (fun e => by cases e) (by have := HLn8.out; have := HQ.out.2.1; omega)).mono ?_
   rintro e wt ⟨rfl, hpt⟩
   obtain ⟨bot, mt, cct, Pt⟩ := HP9.out.put hpt
   have HPt := hide Pt
   have t2 := box_cell (Pt.keep (b2, .cells #[U.ptr gw] 68) (by rw [← hF2]; simp)).1
   have Xt : ReBox wt gs (mkR s) := (Pt.keep (gs, .cells (ReC (mkR s)) 61 (0, 0)) (by simp)).1
   have lt := run_ldP Xt.past
   have HLt : Hid (mt ≤ 40000000001200) := by
    show _ ≤ _
    have h1 := HPt.out.wk.len
    have h2 := HP9.out.wk.len
    have h3 := txB_len HQ.out.2.1
    have h5 := HLn8.out
    unfold txB at h3
    simp only [List.length_append] at h1 h2 h3
    omega
   clear Pt Xt y0 x2 hpt hst9 hld
   go_wp2_with fail
   refine (wpast_any HPt.out s.p HQ.out.1 HQ.out.2.2 (by have := HLt.out; omega)).mono ?_
   rintro e wp_ ⟨rfl, bop, mp, ccp, Pp⟩
   have HPp : Hid (PW w0 wp_ gw bop mp ccp (B0 ++ recB (plR (L.take (j + 1)))) F2) := by
    have h1 := Pp.sub (F' := F2) (fun x hx => List.mem_cons_of_mem _ hx)
    rw [HTk.out]
    unfold txB
    simp only [List.append_assoc] at h1 ⊢
    exact h1
   clear Pp lt t2
   go_wp2_with fail
   go_roundw
   case rel => exact ⟨j + 1, by have := Hlt.out; omega, by simp, bop, mp, ccp, HPp.out⟩
   case measure => simp [intOf]; have := Hlt.out; omega
  ·obtain rfl : j = sn := by omega
   have HFin : Hid (PW w0 wv gw bo8 m8 cc8 (Z ++ recsB (plR L)) F) := by
    have h1 := P8
    rw [List.take_of_length_le (by have := HLl.out; omega), HB0.out.2] at h1
    exact h1.sub HSub.out
   clear P8 S8
   go_wp2_with fail
   go_end0
   exact ⟨rfl, bo8, m8, cc8, HFin.out⟩
end Go.Proofs.YtphohmoibnoeaaaGreat
namespace Go.Proofs.YtphohmoibnoeaaaGreat
open Go.RowKit
attribute [local go_sem] cells_PV PC_size cells_ReV ReC_size zero_ReC
variable {w w' w2 W W' W2 w0 : World} {g gt : Nat} {Z : List Int} {B : Option Nat}

theorem PN.keep2 {n0 : Nat} {p : Pv} (h : PN n0 w p) (hv : ∀ k, U.blk p.vo = some k → w'.heap[k]? = w.heap[k]?) (hc : ∀ k, U.blk p.co = some k → w'.heap[k]? = w.heap[k]?) : PN n0 w' p :=
 ⟨h.v.keep hv, h.c.keep hc, h.vb, h.cb, h.lv, h.lc⟩
theorem PN.lt {n0 : Nat} {p : Pv} (h : PN n0 w p) (k : Nat) (e : U.blk p.vo = some k ∨ U.blk p.co = some k) : k < w.heap.size := by
 rcases e with e | e
 ·exact h.v.lt k e
 ·exact h.c.lt k e
structure RM (w0 W : World) (g : Nat) (Z : List Int) (B : Option Nat) (eo : Option Addr) (en ec : Nat) (L : List Rc) (F : List (Nat × Obj)) : Prop where
 r : RB W g Z B
 gl : g < w0.heap.size
 bl : ∀ k, B = some k → k < w0.heap.size
 k : U.Kg w0 W g
 v : M.BR W eo en ec L
 vnew : ∀ k, U.blk eo = some k → w0.heap.size ≤ k ∧ ∀ x ∈ F, x.1 ≠ k
 keep : ∀ x ∈ F, W.heap[x.1]? = some x.2 ∧ w0.heap.size ≤ x.1
 ps : ∀ x ∈ L, PN w0.heap.size W x.p ∧ x.s.size ≤ 24 ∧ ∀ k, (U.blk x.p.vo = some k ∨ U.blk x.p.co = some k) → U.blk eo ≠ some k
variable {eo : Option Addr} {en ec : Nat} {L : List Rc} {F : List (Nat × Obj)}
theorem RM.num (h : RM w0 W g Z B eo en ec L F) (K : U.Kg W W' g) {Z' : List Int} (R : RB W' g Z' B) : RM w0 W' g Z' B eo en ec L F := by
 have hg := h.gl
 refine ⟨R, h.gl, h.bl, h.k.trans K, h.v.keep fun k e => K.block k (h.v.lt k e) (by have := (h.vnew k e).1; omega), h.vnew, fun x hx => ?_, fun x hx => ⟨(h.ps x hx).1.keep (fun k h1 h2 => K.block k h2 (by omega)), (h.ps x hx).2⟩⟩
 obtain ⟨k1, k2⟩ := h.keep x hx
 exact ⟨(K.block x.1 (some_lt k1) (by omega)).trans k1, k2⟩
theorem RM.app (h : RM w0 W g Z B eo en ec L F) (rN : Rc) (hr : PN w0.heap.size W rN.p) (hs : rN.s.size ≤ 24) (hne : ∀ k, (U.blk rN.p.vo = some k ∨ U.blk rN.p.co = some k) → U.blk eo ≠ some k) {bo : Option Addr} {n2 c2 : Nat} (A : U.Ap W W2 eo bo) (h2 : M.BR W2 bo n2 c2 (L ++ [rN])) : RM w0 W2 g Z B bo n2 c2 (L ++ [rN]) F := by
 have hg := h.gl
 have hk := h.k
 have hvo : ∀ k, k < W.heap.size → U.blk eo ≠ some k → W2.heap[k]? = W.heap[k]? := fun k hk hn => A.grown.block k hk (fun e => hn e.symm)
 have nlow : ∀ k, k < w0.heap.size → U.blk eo ≠ some k := fun k hk e => by have := (h.vnew k e).1; omega
 have hbo : ∀ k, U.blk bo = some k → U.blk eo = some k ∨ W.heap.size ≤ k := fun k e => by
  rcases A.lies with x | ⟨j, x, hj⟩
  ·exact .inl (x ▸ e)
  ·rw [x] at e; exact .inr (by have := Option.some.inj e; omega)
 have hps : ∀ x : Rc, PN w0.heap.size W x.p → x.s.size ≤ 24 → (∀ k, (U.blk x.p.vo = some k ∨ U.blk x.p.co = some k) → U.blk eo ≠ some k) → PN w0.heap.size W2 x.p ∧ x.s.size ≤ 24 ∧ ∀ k, (U.blk x.p.vo = some k ∨ U.blk x.p.co = some k) → U.blk bo ≠ some k := fun x p1 p2 p3 => by
  refine ⟨p1.keep2 (fun k e => hvo k (p1.v.lt k e) (p3 k (.inl e))) (fun k e => hvo k (p1.c.lt k e) (p3 k (.inr e))), p2, fun k e e2 => ?_⟩
  rcases hbo k e2 with y | y
  ·exact p3 k e y
  ·have := p1.lt k e; omega
 refine ⟨h.r.keep (hvo g h.r.lt (nlow g hg)) (fun k e => hvo k (Nat.lt_of_lt_of_le (h.bl k e) hk.size) (nlow k (h.bl k e))), h.gl, h.bl, ⟨A.grown.os.trans hk.os, A.grown.tape.trans hk.tape, A.grown.output.trans hk.output, Nat.le_trans hk.size A.grown.size, fun k hk1 hn => (hvo k (Nat.lt_of_lt_of_le hk1 hk.size) (nlow k hk1)).trans (hk.block k hk1 hn)⟩, h2, fun k e => ⟨?_, fun x hx => ?_⟩, fun x hx => ?_, fun x hx => ?_⟩
 ·rcases hbo k e with y | y
  ·exact (h.vnew k y).1
  ·exact Nat.le_trans hk.size y
 ·rcases hbo k e with y | y
  ·exact (h.vnew k y).2 x hx
  ·have := some_lt (h.keep x hx).1; omega
 ·obtain ⟨k1, k2⟩ := h.keep x hx
  exact ⟨(hvo x.1 (some_lt k1) (fun e => (h.vnew x.1 e).2 x hx rfl)).trans k1, k2⟩
 ·rcases List.mem_append.1 hx with hx | hx
  ·exact hps x (h.ps x hx).1 (h.ps x hx).2.1 (h.ps x hx).2.2
  ·obtain rfl := List.mem_singleton.1 hx
   exact hps x hr hs hne
theorem rdRec_bad {n : Nat} (h : pTx 24 Z = none) : rdRec (n + 1) Z = none := by rw [rdRec, h]
theorem rdRec_bad2 {n : Nat} {Z1 : List Int} {s : ByteArray} (h : pTx 24 Z = some (s, Z1)) (h2 : rdPast Z1 = none) : rdRec (n + 1) Z = none := by rw [rdRec, h]; simp only; rw [h2]
theorem rdRec_next {n : Nat} {Z1 Z2 : List Int} {s : ByteArray} {P : Pst} {C : List Rp} (h : pTx 24 Z = some (s, Z1)) (h2 : rdPast Z1 = some (P, Z2)) :
  (rdRec (n + 1) Z).map (fun x => (C ++ x.1, x.2)) = (rdRec n Z2).map (fun x => ((C ++ [(s, P)]) ++ x.1, x.2)) := by
 rw [rdRec, h]; simp only; rw [h2]; simp only
 cases rdRec n Z2 with
 | none => rfl
 | some y => simp
theorem pCnt_room {v : Nat} {R : List Int} (h : U.pCnt 4 Z = some (v, R)) : 4 * v ≤ Z.length := by
 unfold U.pCnt at h
 split at h
 ·rename_i h0
  simp only [Option.some.injEq, Prod.mk.injEq] at h
  obtain ⟨rfl, -⟩ := h
  unfold U.ctE at h0
  split at h0
  ·rename_i h1; exact absurd h0 h1
  ·split at h0
   ·cases h0
   ·rename_i h2
    have e : U.eachN 4 = 4 := by decide
    rw [e, Int.tdiv_eq_ediv_of_nonneg (by omega)] at h2
    omega
 ·cases h
def RecP (w w' : World) (g : Nat) (B : Option Nat) (o : Option (List Rp × List Int)) (e : Ending) : Prop :=
 (o = none ∧ e = .panicked (U.ups g) ∧ GaveE w w' g) ∨ ∃ L R bo cc, o = some (plR L, R) ∧ e = .returned (.slice bo L.length cc) ∧ RB w' g R B ∧ U.Kg w w' g ∧ M.BR w' bo L.length cc L ∧ (∀ k, U.blk bo = some k → w.heap.size ≤ k) ∧ L.length ≤ 2199023255552 ∧ ∀ x ∈ L, PN w.heap.size w' x.p ∧ x.s.size ≤ 24
def bldR (a : Array (Nat × Value)) : Sem Value := Instr.build 61 a
theorem bldR_eq (a : Array (Nat × Value)) : Instr.build 61 a = bldR a := rfl
theorem run_bldR (s : ByteArray) (p : Pv) (w : World) : (bldR #[(0, .string s), (1, .agg (PC p))]).run Tryz.prog w = .ok (.agg (ReC (mkR ⟨s, p⟩))) w := by kernel_rfl
theorem fold_ReC (e : RecV) : Array.foldl (fun cs x => cs.setIfInBounds x.snd x.fst) (ReC re0) (ReC e).zipIdx 0 3 = ReC e := rfl
attribute [local go_sem ↓] bldR_eq run_bldR
attribute [local go_sem] fold_ReC
set_option maxRecDepth 100000 in
set_option maxHeartbeats 3200000 in
theorem rrecords_any (R : RB w g Z B) (hB : ∀ k, B = some k → k < w.heap.size) (hO : U.Oc Z) (hz : Z.length ≤ 8000000000000) : Calls Tryz.prog 54 #[.agg #[U.ptr g]] w fun e w' => RecP w w' g B (rdRecs Z) e := by
 obtain ⟨b1, hb1⟩ : ∃ b1, w.heap.size = b1 := ⟨_, rfl⟩
 have n1 := U.below_new w (.cells #[U.ptr g] 84)
 have x1 := heap_alloc_new w (.cells #[U.ptr g] 84)
 obtain ⟨W1, hW1⟩ : ∃ W1, w.alloc (.cells #[U.ptr g] 84) = W1 := ⟨_, rfl⟩
 rw [hW1] at n1 x1
 rw [hb1] at x1
 have HP6 : Hid (RM w W1 g Z B none 0 0 [] [(b1, .cells #[U.ptr g] 84)]) := ⟨R.below n1, R.lt, hB, U.Kg.of_below n1, M.BR.nil _, (fun k e => by cases e), (fun x hx => by obtain rfl := List.mem_singleton.1 hx; exact ⟨x1, by show _ ≤ b1; omega⟩), fun x hx => by cases hx⟩
 have HG := hide R.lt
 have HO : Hid (U.Oc Z ∧ Z.length ≤ 8000000000000) := ⟨hO, hz⟩
 have c6 := box_cell x1
 clear R hB n1 x1 hO hz
 go_enter Tryz.func54, Tryz.ntmps54
 go_wp2_with fail
 clear hW1
 refine (cnt_p HP6.out.r 4).mono ?_
 rintro e W7 (⟨hn, rfl, hg⟩ | ⟨N, Z3, hs, rfl, R7, K7⟩)
 ·have HF : Hid (RecP w W7 g B (rdRecs Z) (.panicked (U.ups g))) := .inl ⟨by unfold rdRecs; rw [hn], rfl, GaveE.pre HP6.out.k hg⟩
  clear hn hg
  go_wp2_with fail
  exact ⟨rfl, HF.out⟩
 have HP7 := hide (HP6.out.num K7 R7)
 have HS7 : Hid (rdRecs Z = rdRec N Z3 ∧ U.Oc Z3) := ⟨by unfold rdRecs; rw [hs], (U.pCnt_of HO.out.1 hs).2.1⟩
 have hM : N ≤ 2000000000000 := by have h1 := pCnt_room hs; have h2 := HO.out.2; omega
 clear hs R7 K7 c6 HP6
 go_wp2_with fail
 go_loopw [3, 8] (fun es i wr => ∃ (k cn cc : Nat) (co : Option Addr) (C : List Rc) (Z4 : List Int), k ≤ N ∧ cn = k ∧ es = .slice co cn cc ∧ i = .int .i64 k ∧ Hid (RM w wr g Z4 B co cn cc C [(b1, .cells #[U.ptr g] 84)] ∧ U.Oc Z4 ∧ (rdRec (N - k) Z4).map (fun x => (plR C ++ x.1, x.2)) = rdRec N Z3)) (fun _ i _ => N - (intOf i).toNat)
 case atStart => exact ⟨0, 0, 0, none, [], Z3, Nat.zero_le _, rfl, rfl, rfl, HP7.out, HS7.out.2, by rw [Nat.sub_zero]; cases rdRec N Z3 <;> rfl⟩
 case round =>
  obtain ⟨j, cn, cc, co, C, Z4, hj, hcj, rfl, rfl, HZ⟩ := hrel
  rename World => wv
  have HCJ := hide hcj
  have hcn : cn ≤ 2000000000000 := by omega
  clear hcj
  have d1 := box_cell (HZ.out.1.keep (b1, .cells #[U.ptr g] 84) (by simp)).1
  simp only at d1
  by_cases hjm : j < N
  ·obtain ⟨hRM, hOz, hrd⟩ := HZ.out
   have eM : N - j = (N - (j + 1)) + 1 := by omega
   rw [eM] at hrd
   have HRD := hide hrd
   have HRM := hide hRM
   have HOz := hide hOz
   have Hjm := hide hjm
   clear hrd hRM hOz HZ eM
   go_wp2_with fail
   refine (text_p HRM.out.r 24).mono ?_
   rintro e wb (⟨hn, rfl, hg⟩ | ⟨s, Zb, hs, rfl, Rb, Kb⟩)
   ·have HF : Hid (RecP w wb g B (rdRecs Z) (.panicked (U.ups g))) := .inl ⟨by rw [HS7.out.1, ← HRD.out, rdRec_bad hn]; rfl, rfl, GaveE.pre HRM.out.k hg⟩
    clear hn hg
    go_wp2_with fail
    exact ⟨rfl, HF.out⟩
   have HRb := hide (HRM.out.num Kb Rb)
   have HSb := hide hs
   have HOb : Hid (U.Oc Zb ∧ s.size ≤ 24) := by have h := pTx_of HOz.out hs; exact ⟨h.2.2, by omega⟩
   have db := box_cell (HRb.out.keep (b1, .cells #[U.ptr g] 84) (by simp)).1
   simp only at db
   clear hs Rb Kb d1 HRM
   go_wp2_with fail
   refine (rpast_any HRb.out.r (fun k e => Nat.lt_of_lt_of_le (HRb.out.bl k e) HRb.out.k.size)).mono ?_
   rintro e wc (⟨hn, rfl, hg⟩ | ⟨P, Zc, vo, vc, co2, cc2, hs, rfl, Rc2, Kc, hv, hc, nv, nc⟩)
   ·have HF : Hid (RecP w wc g B (rdRecs Z) (.panicked (U.ups g))) := .inl ⟨by rw [HS7.out.1, ← HRD.out, rdRec_bad2 HSb.out hn]; rfl, rfl, GaveE.pre HRb.out.k hg⟩
    clear hn hg
    go_wp2_with fail
    exact ⟨rfl, HF.out⟩
   obtain ⟨p, hp⟩ : ∃ p : Pv, (⟨vo, P.vec.length, vc, co2, P.cloud.length, cc2, P⟩ : Pv) = p := ⟨_, rfl⟩
   have hroom := rd_room HOb.out.1 hs
   have hsz := HRb.out.k.size
   have HPN : Hid (PN w.heap.size wc p ∧ (∀ k, (U.blk p.vo = some k ∨ U.blk p.co = some k) → U.blk co ≠ some k) ∧ p.P = P) := by
    rw [← hp]
    refine ⟨⟨hv, hc, fun k e => Nat.le_trans hsz (nv k e), fun k e => Nat.le_trans hsz (nc k e), hroom.1, hroom.2⟩, fun k e e2 => ?_, rfl⟩
    have h1 := HRb.out.v.lt k e2
    rcases e with e | e
    ·have := nv k e; omega
    ·have := nc k e; omega
   have HRc := hide (HRb.out.num Kc Rc2)
   have HSc := hide hs
   have HOc := hide (rdPast_of HOb.out.1 hs).2.1
   have hcn2 : cn + 1 ≤ 2199023255552 := by omega
   rw [hp]
   clear hs Rc2 Kc db HRb hv hc nv nc hroom hsz hp
   go_wp2_with (at_builtin; go_loud (refine M.BR.app1 HRc.out.v ⟨s, p⟩ _ rfl hcn2 rfl (.tmp 13) (.tmp 18) rfl rfl rfl ?_); intro bo2 c2 wd hr2 ha2)
   have HRd := hide (HRc.out.app ⟨s, p⟩ HPN.out.1 HOb.out.2 HPN.out.2.1 ha2 hr2)
   have HNx : Hid ((rdRec (N - (j + 1)) Zc).map (fun x => (plR (C ++ [⟨s, p⟩]) ++ x.1, x.2)) = rdRec N Z3) := by
    show _ = _
    rw [← HRD.out, rdRec_next HSb.out HSc.out, plR_snoc]
    simp only [HPN.out.2.2]
   clear hr2 ha2
   exact ⟨⟨j + 1, cn + 1, c2, bo2, _, Zc, by have := Hjm.out; omega, by have := HCJ.out; omega, rfl, rfl, HRd.out, HOc.out, HNx.out⟩, by show N - (j + 1) < N - j; have := Hjm.out; omega⟩
  ·obtain rfl : j = N := by omega
   have HF : Hid (RecP w wv g B (rdRecs Z) (.returned (.slice co cn cc))) := by
    obtain ⟨hRM, -, hrd⟩ := HZ.out
    have hl := hRM.v.len
    subst hl
    refine .inr ⟨C, Z4, co, cc, ?_, rfl, hRM.r, hRM.k, hRM.v, (fun k e => (hRM.vnew k e).1), by omega, fun x hx => ⟨(hRM.ps x hx).1, (hRM.ps x hx).2.1⟩⟩
    rw [HS7.out.1, ← hrd, Nat.sub_self, rdRec]
    simp
   clear HZ d1
   go_wp2_with fail
   go_ret
   exact HF.out
end Go.Proofs.YtphohmoibnoeaaaGreat
