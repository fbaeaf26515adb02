/- ZGc ZGe ZLw UCv -/
import Derived.Test.YtbmjiedpaffifaaGreatDb38
import Derived.Test.YtbmjiedpaffifaaGreatDb27
import Derived.Lib.AppendStr
namespace Go.Proofs.YtbmjiedpaffifaaGreat
open Go.RowKit
attribute [local go_sem ↓] ldP_eq stP_eq ldDi_eq stDi_eq
attribute [local go_sem] zero_PC cells_PV PC_size cells_DiV DiC_size
variable {w w' w2 W W' : World} {g gv : Nat} {Z : List Int} {B : Option Nat}

def dg0 : Dg := ⟨pv0, pv0⟩
/-- what the closure leaves -/
def GcD (w : World) (g gv : Nat) (Z : List Int) (r : Ending) (w' : World) : Prop :=
  (w'.os = w.os ∧ w'.tape = w.tape ∧ w'.output = w.output ∧ w.heap.size ≤ w'.heap.size ∧ ∀ k, k < w.heap.size → k ≠ g → k ≠ gv → w'.heap[k]? = w.heap[k]?) ∧
  ((∃ d R so sc, InForm d.h.P ∧ InForm d.l.P ∧ Z = frB d.h.P ++ (frB d.l.P ++ R) ∧ r = .returned (.tuple #[]) ∧ PN w.heap.size w' d.h ∧ PN w.heap.size w' d.l ∧ DiBox w' gv (mkD d) ∧ U.Rdr w' g so R.length sc 0 false) ∨
    ((∀ H L R, InForm H → InForm L → Z ≠ frB H ++ (frB L ++ R)) ∧ r = .panicked (U.ups g) ∧ ∃ e, e ≠ 0 ∧ U.Rdr w' g none 0 0 e false))
theorem DiBox.kg {m : DigV} (h : DiBox w gv m) (K : U.Kg w w' g) (hn : gv ≠ g) : DiBox w' gv m := (K.block gv h.lt hn).trans h
theorem frB_cut {P Q : Pst} {R S : List Int} (hP : InForm P) (hQ : InForm Q) (e : frB P ++ R = frB Q ++ S) : P = Q ∧ R = S := by
  obtain ⟨h1, h2⟩ := pcY_to hP (Z := frB P ++ R) rfl
  obtain ⟨g1, g2⟩ := pcY_to hQ (Z := frB P ++ R) e
  have e1 : pastB P = pastB Q := h2.symm.trans g2
  have q1 := rdPast_to hP []
  have q2 := rdPast_to hQ []
  rw [e1, q2] at q1
  have e2 : P = Q := (congrArg Prod.fst (Option.some.inj q1)).symm
  subst e2
  exact ⟨rfl, List.append_cancel_left e⟩
set_option maxRecDepth 100000 in
set_option maxHeartbeats 1600000 in
theorem dgetc_any (R : RB w g Z B) (hB : ∀ k, B = some k → k < w.heap.size ∧ k ≠ gv) (hO : U.Oc Z) (M : DiBox w gv (mkD dg0)) (hn : gv ≠ g) : Calls Tryz.prog 18 #[U.ptr g, U.ptr gv] w fun r w' => GcD w g gv Z r w' := by
  have HC := hide (framed_any R (fun k e => (hB k e).1) hO)
  have HM := hide M
  have HG : Hid (gv ≠ g ∧ g < w.heap.size ∧ gv < w.heap.size) := ⟨hn, R.lt, M.lt⟩
  have HO := hide hO
  have HB := hide hB
  clear R hB M hn hO
  go_enter Tryz.func18, Tryz.ntmps18
  go_wp2_with fail
  refine HC.out.mono ?_
  rintro r w2 (⟨hno, rfl, e, he, RR, K⟩ | ⟨p, R2, hIn, hZ, rfl, hN, hR2, K2⟩)
  · have HE : Hid (GcD w g gv Z (.panicked (U.ups g)) w2) := ⟨⟨K.os, K.tape, K.output, K.size, fun k hk h1 _ => K.block k hk h1⟩, Or.inr ⟨fun H L R hH _ e => hno H (frB L ++ R) hH e, rfl, e, he, RR⟩⟩
    clear hno he RR K HC
    go_wp2_with fail
    exact ⟨rfl, HE.out⟩
  · obtain ⟨w3, hst3, B3, K3⟩ := run_stPH p (HM.out.kg K2 HG.out.1)
    have hO2 : U.Oc R2 := by
      have := HO.out.drop (frB p.P).length
      rw [hZ, List.drop_left] at this
      exact this
    have hR3 : RB w3 g R2 B := hR2.keep (K3.block g hR2.lt (Ne.symm HG.out.1)) (fun k e => K3.block k (Nat.lt_of_lt_of_le (HB.out k e).1 K2.size) (HB.out k e).2)
    have HF3 := hide (framed_any hR3 (fun k e => Nat.lt_of_lt_of_le (HB.out k e).1 (Nat.le_trans K2.size K3.size)) hO2)
    have HN3 := hide (hN.keep (fun k h1 h2 => K3.block k h2 (by have := HG.out; omega)))
    have HB3 : Hid (DiBox w3 gv (mkD ⟨p, pv0⟩)) := B3
    have HK : Hid (U.Kg w w2 g ∧ U.Kg w2 w3 gv ∧ InForm p.P ∧ Z = frB p.P ++ R2) := ⟨K2, K3, hIn, hZ⟩
    clear hN hR2 K2 K3 hIn hZ B3 hO2 hR3 HC
    go_wp2_with fail
    clear hst3
    refine HF3.out.mono ?_
    rintro r w4 (⟨hno, rfl, e, he, RR, K⟩ | ⟨p4, R4, hIn4, hZ4, rfl, hN4, hR4, K4⟩)
    · have HE : Hid (GcD w g gv Z (.panicked (U.ups g)) w4) := by
        obtain ⟨k2, k3, hIn, hZ⟩ := HK.out
        refine ⟨⟨K.os.trans (k3.os.trans k2.os), K.tape.trans (k3.tape.trans k2.tape), K.output.trans (k3.output.trans k2.output), Nat.le_trans k2.size (Nat.le_trans k3.size K.size), fun k hk h1 h2 => (K.block k (Nat.lt_of_lt_of_le hk (Nat.le_trans k2.size k3.size)) h1).trans ((k3.block k (Nat.lt_of_lt_of_le hk k2.size) h2).trans (k2.block k hk h1))⟩, Or.inr ⟨fun H L R hH hL e => ?_, rfl, e, he, RR⟩⟩
        rw [hZ] at e
        obtain ⟨rfl, rfl⟩ := frB_cut hIn hH e
        exact hno L R hL rfl
      clear hno he RR K HF3
      go_wp2_with fail
      exact ⟨rfl, HE.out⟩
    · obtain ⟨w5, hst5, B5, K5⟩ := run_stPL p4 (HB3.out.kg K4 HG.out.1)
      have HE : Hid (GcD w g gv Z (.returned (.tuple #[])) w5) := by
        obtain ⟨k2, k3, hIn, hZ⟩ := HK.out
        have hg := HG.out
        obtain ⟨so, sn, sc, RL, -⟩ := hR4
        have hs2 := k2.size
        have hs3 := k3.size
        have hs4 := K4.size
        refine ⟨⟨K5.os.trans (K4.os.trans (k3.os.trans k2.os)), K5.tape.trans (K4.tape.trans (k3.tape.trans k2.tape)), K5.output.trans (K4.output.trans (k3.output.trans k2.output)), by have := K5.size; omega, fun k hk h1 h2 => (K5.block k (by omega) h2).trans ((K4.block k (by omega) h1).trans ((k3.block k (by omega) h2).trans (k2.block k hk h1)))⟩, Or.inl ⟨⟨p, p4⟩, R4, so, sc, hIn, hIn4, by rw [hZ, hZ4], rfl, ?_, ?_, B5, ?_⟩⟩
        · exact (HN3.out.keep (fun k h1 h2 => K4.block k h2 (by omega))).keep (fun k h1 h2 => K5.block k h2 (by omega))
        · exact (hN4.keep (fun k h1 h2 => K5.block k h2 (by omega))).mono (by omega)
        · rw [RL.len]
          exact (K5.block g RL.r.lt (Ne.symm hg.1)).trans RL.r
      clear hN4 hR4 K4 hIn4 hZ4 B5 K5 HF3
      go_wp2_with fail
      clear hst5
      go_end0
      exact HE.out
end Go.Proofs.YtbmjiedpaffifaaGreat
namespace Go.Proofs.YtbmjiedpaffifaaGreat
open Go.RowKit
attribute [local go_sem ↓] ldP_eq stP_eq ldDi_eq stDi_eq
attribute [local go_sem] cells_PV PC_size cells_DiV DiC_size
variable {w w' w2 W W' : World} {g gv : Nat} {Z : List Int} {B : Option Nat}

/-- Read is behind us -/
def RpD (w1 w' : World) (gv : Nat) (Z : List Int) (err : Int) : Prop := U.Kg w1 w' gv ∧
  ((∃ d R, InForm d.h.P ∧ InForm d.l.P ∧ Z = frB d.h.P ++ (frB d.l.P ++ R) ∧ err = U.endA R.length ∧ PN w1.heap.size w' d.h ∧ PN w1.heap.size w' d.l ∧ DiBox w' gv (mkD d)) ∨ ((∀ H L R, InForm H → InForm L → Z ≠ frB H ++ (frB L ++ R)) ∧ err ≠ 0))
set_option maxRecDepth 100000 in
theorem read_dig (ro : Option Addr) (rn rc : Nat) (Z : List Int) (gv : Nat) (w1 : World) (S : U.Src w1 ro rn rc Z) (hcap : rn ≤ rc) (hz : rn ≤ 140737488355328) (M : DiBox w1 gv (mkD dg0)) (hgv : rn ≠ 0 → U.blk ro ≠ some gv) : Calls Tryz.prog 17 #[.slice ro rn rc, .func (.func 18) #[] #[U.ptr gv]] w1 fun r w' => ∃ err, r = .returned (.int .i64 err) ∧ RpD w1 w' gv Z err := by
  have hcf : ∀ (args : Array Value) (w : World), (callFunc 18 args).run Tryz.prog w = .ok (.enter 18 args) w := fun _ _ => rfl
  have G1 := U.beg w1 ro rn rc
  obtain ⟨W1, hW1⟩ : ∃ W1, U.W0 w1 ro rn rc = W1 := ⟨_, rfl⟩
  rw [hW1] at G1
  have hb := G1.b
  have hsz := G1.n.2
  have hlt : rn ≠ 0 → ∀ k, U.blk ro = some k → k < w1.heap.size := fun h0 k e => by
    obtain ⟨ad, ha, hc⟩ := U.cell_at S 0 (by omega)
    have := World.block_lt_of_cell? _ _ hc
    rw [U.block_of_add] at this
    rw [ha] at e
    have : ad.block = k := Option.some.inj e
    omega
  have hM1 := M.lt
  have hf : Calls Tryz.prog 18 #[U.ptr (w1.heap.size + 1), U.ptr gv] W1 fun r w' => GcD W1 (w1.heap.size + 1) gv Z r w' := by
    have hRL : U.RL W1 (w1.heap.size + 1) ro rn rc Z := ⟨G1.r, S.below hb, hcap, by omega, fun h0 e => by have := hlt h0 _ e; omega⟩
    by_cases h0 : rn = 0
    · have hZ : Z = [] := List.eq_nil_of_length_eq_zero (by rw [S.1]; exact h0)
      exact dgetc_any (B := none) ⟨ro, rn, rc, hRL, fun h => absurd hZ h⟩ (fun k e => by cases e) S.2.2.2 (M.below G1.b) (by omega)
    · exact dgetc_any ⟨ro, rn, rc, hRL, fun _ => rfl⟩ (fun k e => ⟨by have := hlt h0 k e; omega, fun ek => hgv h0 (by rw [e, ek])⟩) S.2.2.2 (M.below G1.b) (by omega)
  have hR := U.read_any ro rn rc 18 #[U.ptr gv] (GcD W1 (w1.heap.size + 1) gv Z) w1 hcf (by rw [hW1]; exact hf) (by
    rintro e w2 ⟨⟨-, -, -, -, K⟩, h⟩
    refine ⟨?_, (K _ (by omega) (by omega) (by omega)).trans G1.v, (K _ (by omega) (by omega) (by omega)).trans G1.e⟩
    rcases h with ⟨_, _, _, _, _, _, _, rfl, _, _, _, R⟩ | ⟨_, rfl, e, he, R⟩
    · exact ⟨_, _, .calm R⟩
    · exact ⟨_, _, .up R he⟩)
  refine hR.mono ?_
  rintro r w' ⟨e2, w2, gave, err, ⟨⟨k1, k2, k3, k4, K⟩, h⟩, hE, rfl, F⟩
  refine ⟨err, rfl, ⟨F.os.trans (k1.trans hb.os), F.tape.trans (k2.trans hb.tape), F.output.trans (k3.trans hb.output), Nat.le_trans hb.size (Nat.le_trans k4 F.size), fun k hk hne => (F.block k (by omega) (by omega) (by omega)).trans ((K k (by omega) (by omega) hne).trans (hb.block k hk))⟩, ?_⟩
  rcases h with ⟨d, R, so, sc, h1, h2, hp, rfl, hH, hL, MB, RR⟩ | ⟨hp, rfl, e, he, RR⟩
  · refine Or.inl ⟨d, R, h1, h2, hp, ?_, (hH.keep (fun k h1 h2 => F.block k h2 (by omega) (by omega))).mono (by omega), (hL.keep (fun k h1 h2 => F.block k h2 (by omega) (by omega))).mono (by omega), (F.block gv MB.lt (by omega) (by omega)).trans MB⟩
    cases hE with
    | calm R' =>
      obtain ⟨h1, -⟩ := U.rdr_inj RR R'
      rw [h1]
  · refine Or.inr ⟨hp, ?_⟩
    cases hE with
    | up R' he' => exact he'
theorem res2D {fn : Func} {p q : Tmp} {m : DigV} {v : Value} (h : fn.results = #[.cell p 27, .tmp q]) {tmps : Array Value} (hp : tmps.getD p undef = .pointer (some ⟨g, 0, none⟩)) (hq : tmps.getD q undef = v) (A : DiBox w g m) :
    (results fn tmps).run Tryz.prog w = .ok (.tuple #[DiV m, v]) w := by
  have hl := run_lvDi A
  simp only [results, h]
  rw [Array.getD_eq_getD_getElem?] at hp hq
  simp [hp, hq, asAddr, hl]
/-- what Get answers -/
def GpD (w w' : World) (Z : List Int) (r : Ending) : Prop := Below w.heap.size w w' ∧
  ((∃ d, FormD d.h.P d.l.P ∧ Z = digB d.h.P d.l.P ∧ r = .returned (.tuple #[DiV (mkD d), .int .i64 0]) ∧ PN w.heap.size w' d.h ∧ PN w.heap.size w' d.l) ∨
    ((∀ H L, FormD H L → Z ≠ digB H L) ∧ r = .returned (.tuple #[DiV (mkD dg0), .int .i64 8])))
theorem dig_cut {H L H' L' : Pst} {R : List Int} (h : InForm H) (h' : InForm H') (l : InForm L) (l' : InForm L') (e : digB H L = frB H' ++ (frB L' ++ R)) : H = H' ∧ L = L' ∧ R = [] := by
  have e1 : frB H ++ (frB L ++ []) = frB H' ++ (frB L' ++ R) := by rw [List.append_nil]; exact e
  obtain ⟨rfl, e2⟩ := frB_cut h h' e1
  obtain ⟨rfl, e3⟩ := frB_cut l l' e2
  exact ⟨rfl, rfl, e3.symm⟩
set_option maxRecDepth 100000 in
set_option maxHeartbeats 3200000 in
theorem dget_any (ro : Option Addr) (rn rc : Nat) (Z : List Int) (w : World) (S : U.Src w ro rn rc Z) (hcap : rn ≤ rc) (hz : rn ≤ 140737488355328) : Calls Tryz.prog 7 #[.slice ro rn rc] w fun r w' => GpD w w' Z r := by
  obtain ⟨g1, hg1⟩ : ∃ g1, w.heap.size = g1 := ⟨_, rfl⟩
  have b1 := below_new w (.cells #[.slice none 0 0, .slice none 0 0, .slice none 0 0, .slice none 0 0] 27)
  have x1 : DiBox (w.alloc (.cells #[.slice none 0 0, .slice none 0 0, .slice none 0 0, .slice none 0 0] 27)) w.heap.size (mkD dg0) := DiBox_new w (mkD dg0)
  have s1 := World.size_alloc w (.cells #[.slice none 0 0, .slice none 0 0, .slice none 0 0, .slice none 0 0] 27)
  obtain ⟨w1, hw1⟩ : ∃ w1, w.alloc (.cells #[.slice none 0 0, .slice none 0 0, .slice none 0 0, .slice none 0 0] 27) = w1 := ⟨_, rfl⟩
  rw [hw1] at b1 x1 s1
  have b2 := below_new w1 (.cells #[.slice none 0 0, .slice none 0 0, .slice none 0 0, .slice none 0 0] 27)
  have x2 : DiBox (w1.alloc (.cells #[.slice none 0 0, .slice none 0 0, .slice none 0 0, .slice none 0 0] 27)) w1.heap.size (mkD dg0) := DiBox_new w1 (mkD dg0)
  obtain ⟨w2, hw2⟩ : ∃ w2, w1.alloc (.cells #[.slice none 0 0, .slice none 0 0, .slice none 0 0, .slice none 0 0] 27) = w2 := ⟨_, rfl⟩
  rw [hw2] at b2 x2
  rw [hg1] at x1 s1
  rw [s1] at x2
  have bt := b1.trans (b2.mono b1.size)
  have hgv : rn ≠ 0 → U.blk ro ≠ some (g1 + 1) := fun h0 e => by
    obtain ⟨ad, ha, hc⟩ := U.cell_at S 0 (by omega)
    have h1 := World.block_lt_of_cell? _ _ hc
    rw [U.block_of_add] at h1
    rw [ha] at e
    have : ad.block = g1 + 1 := Option.some.inj e
    omega
  have HR := hide (read_dig ro rn rc Z (g1 + 1) w2 (S.below bt) hcap hz x2 hgv)
  have HM : Hid (DiBox w2 g1 (mkD dg0) ∧ Below w.heap.size w w2 ∧ w.heap.size = g1) := ⟨x1.below b2, bt, hg1⟩
  clear S b1 b2 x1 x2 bt hcap hz hgv
  go_enter Tryz.func7, Tryz.ntmps7
  go_wp2_with fail
  clear hw1 hw2 s1 hg1
  refine HR.out.mono ?_
  rintro r w5 ⟨err, rfl, K5, h⟩
  have M2 : DiBox w5 g1 (mkD dg0) := (K5.block _ HM.out.1.lt (by omega)).trans HM.out.1
  have b5 : Below w.heap.size w w5 := ⟨K5.os.trans HM.out.2.1.os, K5.tape.trans HM.out.2.1.tape, K5.output.trans HM.out.2.1.output, Nat.le_trans HM.out.2.1.size K5.size, fun k hk => (K5.block k (Nat.lt_of_lt_of_le hk HM.out.2.1.size) (by have := HM.out.2.2; omega)).trans (HM.out.2.1.block k hk)⟩
  have HM2 := hide M2
  have HB5 := hide b5
  clear HR M2 b5 K5
  have HBad : Hid (∀ V, Below w.heap.size w V → (∀ H L, FormD H L → Z ≠ digB H L) → DiBox V g1 (mkD dg0) → GpD w (V.setRow g1 (DiC (mkD dg0))) Z (.returned (.tuple #[DiV (mkD dg0), .int .i64 8])) ∧ DiBox (V.setRow g1 (DiC (mkD dg0))) g1 (mkD dg0) ∧ (stDi (.pointer (some ⟨g1, 0, none⟩)) (.agg #[.slice none 0 0, .slice none 0 0, .slice none 0 0, .slice none 0 0])).run Tryz.prog V = .ok () (V.setRow g1 (DiC (mkD dg0)))) := fun V hb hno hx => ⟨⟨below_setRow hb (by have := HM.out.2.2; omega), .inr ⟨hno, rfl⟩⟩, hx.setRow, run_stDi (m' := mkD dg0) hx⟩
  by_cases he : err = 0
  · subst he
    obtain ⟨d, h1, h2, hZ, hH, hL, MB⟩ : ∃ d, InForm d.h.P ∧ InForm d.l.P ∧ Z = digB d.h.P d.l.P ∧ PN w2.heap.size w5 d.h ∧ PN w2.heap.size w5 d.l ∧ DiBox w5 (g1 + 1) (mkD d) := by
      rcases h with ⟨d, R, h1, h2, hp, hR, hH, hL, MB⟩ | ⟨_, h0⟩
      · cases R with
        | nil => exact ⟨d, h1, h2, by rw [hp, List.append_nil]; rfl, hH, hL, MB⟩
        | cons x R => simp [U.endA] at hR
      · exact absurd rfl h0
    have l5 := run_ldDi MB
    have HZ : Hid (InForm d.h.P ∧ InForm d.l.P ∧ Z = digB d.h.P d.l.P) := ⟨h1, h2, hZ⟩
    have HH := hide hH
    have HL := hide hL
    have HMB := hide MB
    clear h h1 h2 hZ hH hL MB
    go_wp2_with fail
    refine (dcheck_any d _ ⟨HH.out.src, HL.out.src⟩).mono ?_
    rintro e w6 ⟨x, rfl, hx, b6⟩
    have HB6 := hide (HB5.out.trans (b6.mono HB5.out.size))
    have HM6 := hide (HM2.out.below b6)
    rcases hx with ⟨rfl, hx⟩ | ⟨rfl, hx⟩
    · obtain ⟨hF, hX, t6⟩ := HBad.out w6 HB6.out (fun H L hf e => by
        have h := HZ.out
        rw [e] at h
        obtain ⟨rfl, rfl, -⟩ := dig_cut (R := []) hf.1 h.1 hf.2.1 h.2.1 (by rw [List.append_nil]; exact h.2.2)
        exact hx hf) HM6.out
      have HF := hide hF
      have HX := hide hX
      clear hx b6 l5 hF hX
      go_wp2_with fail
      refine bodyPost_ret (res2D rfl rfl rfl HX.out) rfl ?_
      exact HF.out
    · have l6 := run_ldDi (HMB.out.below b6)
      have t6 := run_stDi (m' := mkD d) HM6.out
      have HX : Hid (DiBox (w6.setRow g1 (DiC (mkD d))) g1 (mkD d)) := HM6.out.setRow
      have HF : Hid (GpD w (w6.setRow g1 (DiC (mkD d))) Z (.returned (.tuple #[DiV (mkD d), .int .i64 0]))) := by
        have h3 := HM.out.2.2
        have h4 := HM.out.1.lt
        refine ⟨below_setRow HB6.out (by omega), .inl ⟨d, hx, HZ.out.2.2, rfl, ?_, ?_⟩⟩
        · exact ((HH.out.below b6).keep (fun k h1 h2 => setRow_other _ _ _ _ (by omega))).mono (by omega)
        · exact ((HL.out.below b6).keep (fun k h1 h2 => setRow_other _ _ _ _ (by omega))).mono (by omega)
      clear hx b6 l5
      go_wp2_with fail
      refine bodyPost_ret (res2D rfl rfl rfl HX.out) rfl ?_
      exact HF.out
  · have hne : (err != 0) = true := by simpa using he
    obtain ⟨hF, hX, t6⟩ := HBad.out w5 HB5.out (fun H L hf e => by
      rcases h with ⟨d, R, h1, h2, hp, hR, -⟩ | ⟨hno, -⟩
      · rw [e] at hp
        obtain ⟨-, -, rfl⟩ := dig_cut hf.1 h1 hf.2.1 h2 hp
        exact he hR
      · exact hno H L [] hf.1 hf.2.1 (by rw [List.append_nil]; exact e)) HM2.out
    have HF := hide hF
    have HX := hide hX
    clear h he hF hX
    go_wp2_with fail
    refine bodyPost_ret (res2D rfl rfl rfl HX.out) rfl ?_
    exact HF.out
end Go.Proofs.YtbmjiedpaffifaaGreat
namespace Go.Proofs.YtbmjiedpaffifaaGreat
open Go.RowKit
attribute [local go_sem ↓] ldP_eq stP_eq ldDi_eq stDi_eq
attribute [local go_sem] cells_PV PC_size cells_DiV DiC_size
variable {w w' w2 W W' : World} {g gv : Nat} {Z : List Int} {B : Option Nat}

theorem mod_at (a : Int) (n : Nat) (h : 0 < n) : ∃ k : Nat, k < n ∧ (IntKind.u64.wrap a).tmod (n : Int) = (k : Int) ∧ (IntKind.u64.wrap a) % (n : Int) = (k : Int) := by
  have h0 : 0 ≤ IntKind.u64.wrap a := by simp [IntKind.wrap, IntKind.signed, IntKind.bits]; omega
  have e : (IntKind.u64.wrap a) % (n : Int) = (((IntKind.u64.wrap a).toNat % n : Nat) : Int) := by
    rw [Int.natCast_emod, Int.toNat_of_nonneg h0]
  exact ⟨(IntKind.u64.wrap a).toNat % n, Nat.mod_lt _ h, by rw [Int.tmod_eq_emod_of_nonneg h0]; exact e, e⟩
theorem form_zero : InForm pv0.P := ⟨by decide, trivial⟩
theorem dig_zero : digB pv0.P pv0.P = [2, 0, 0, 2, 0, 0] := by
  have h0 : U.numB 0 = [0] := by rw [U.numB_lt (by decide)]; rfl
  have h2 : U.numB 2 = [2] := by rw [U.numB_lt (by decide)]; rfl
  have hp : pastB pv0.P = [0, 0] := by
    show U.numB 0 ++ ([] ++ (U.numB 0 ++ [])) = _
    rw [h0]; rfl
  unfold digB frB
  rw [hp]
  show U.numB 2 ++ [0, 0] ++ (U.numB 2 ++ [0, 0]) = _
  rw [h2]; rfl
theorem formD_zero : FormD pv0.P pv0.P := ⟨form_zero, form_zero, fun _ _ _ h => h⟩
theorem src_six (w : World) : U.Src (w.alloc (.cells #[.int .u8 2, .int .u8 0, .int .u8 0, .int .u8 2, .int .u8 0, .int .u8 0] 5 (6, 7))) (some ⟨w.heap.size, 0, none⟩) 6 6 [2, 0, 0, 2, 0, 0] := by
  have hh := heap_alloc_new w (.cells #[.int .u8 2, .int .u8 0, .int .u8 0, .int .u8 2, .int .u8 0, .int .u8 0] 5 (6, 7))
  obtain ⟨V, hV⟩ : ∃ V, w.alloc (.cells #[.int .u8 2, .int .u8 0, .int .u8 0, .int .u8 2, .int .u8 0, .int .u8 0] 5 (6, 7)) = V := ⟨_, rfl⟩
  rw [hV] at hh ⊢
  refine ⟨rfl, fun h => (by cases h), fun ad h t ht => ?_, fun t => ?_⟩
  · obtain rfl := Option.some.inj h
    rw [Addr.add_lit, Nat.zero_add]
    rcases (show t = 0 ∨ t = 1 ∨ t = 2 ∨ t = 3 ∨ t = 4 ∨ t = 5 by omega) with rfl | rfl | rfl | rfl | rfl | rfl <;> simp [World.cell?, hh]
  · rw [List.getD_eq_getElem?_getD]
    by_cases ht : t < 6
    · rcases (show t = 0 ∨ t = 1 ∨ t = 2 ∨ t = 3 ∨ t = 4 ∨ t = 5 by omega) with rfl | rfl | rfl | rfl | rfl | rfl <;> decide
    · rw [List.getElem?_eq_none (by simp; omega)]; decide
theorem src_takeD {ao : Option Addr} {n c k : Nat} (S : U.Src w ao n c Z) (hk : k ≤ n) (h0 : 0 < n) : U.Src w ao k c (Z.take k) := by
  refine ⟨by rw [List.length_take, S.1]; omega, fun e => ?_, fun ad e t ht => ?_, fun t => ?_⟩
  · have := S.2.1 e; omega
  · rw [S.2.2.1 ad e t (by omega), List.getD_eq_getElem?_getD, List.getD_eq_getElem?_getD, List.getElem?_take, if_pos ht]
  · rw [List.getD_eq_getElem?_getD, List.getElem?_take]
    split
    · rw [← List.getD_eq_getElem?_getD]; exact S.2.2.2 t
    · exact ⟨by decide, by decide⟩
theorem ob_numD (n : Nat) : ∀ x ∈ U.numB n, 0 ≤ x ∧ x ≤ 255 := fun x hx => by
  obtain ⟨k, hk, rfl⟩ := List.getElem_of_mem hx
  have := U.numB_oct n k
  rwa [List.getD_eq_getElem?_getD, List.getElem?_eq_getElem hk] at this
theorem ob_cloudD : ∀ (L : List Sn) (T : Nat → Int) (r : Int), ∀ x ∈ cloudB T r L, 0 ≤ x ∧ x ≤ 255
  | [], _, _, x, hx => by cases hx
  | s :: t, T, r, x, hx => by
    simp only [cloudB, List.mem_append] at hx
    rcases hx with h | h | h | h
    · exact ob_numD _ x h
    · exact ob_numD _ x h
    · exact ob_numD _ x h
    · exact ob_cloudD t _ _ x h
theorem ob_pastD (P : Pst) : ∀ x ∈ pastB P, 0 ≤ x ∧ x ≤ 255 := fun x hx => by
  unfold pastB vecB at hx
  simp only [List.mem_append, List.mem_flatMap] at hx
  rcases hx with h | ⟨y, -, h⟩ | h | h
  · exact ob_numD _ x h
  · exact ob_numD _ x h
  · exact ob_numD _ x h
  · exact ob_cloudD _ _ _ x h
theorem ob_dig (H L : Pst) : ∀ x ∈ digB H L, 0 ≤ x ∧ x ≤ 255 := fun x hx => by
  unfold digB frB at hx
  simp only [List.mem_append] at hx
  rcases hx with (h | h) | (h | h)
  · exact ob_numD _ x h
  · exact ob_pastD _ x h
  · exact ob_numD _ x h
  · exact ob_pastD _ x h
theorem oc_of (h : ∀ x ∈ Z, 0 ≤ x ∧ x ≤ 255) : U.Oc Z := fun t => by
  rw [List.getD_eq_getElem?_getD]
  by_cases ht : t < Z.length
  · rw [List.getElem?_eq_getElem ht]; exact h _ (List.getElem_mem ht)
  · rw [List.getElem?_eq_none (by omega)]; decide
theorem digB_len {H L : Pst} (h : FormD H L) : (digB H L).length ≤ 400000000020 ∧ 0 < (digB H L).length := by
  have h1 := frB_len h.1
  have h2 := frB_len h.2.1
  have h3 := numB_pos (pastB H).length
  unfold digB
  rw [List.length_append]
  refine ⟨by omega, ?_⟩
  unfold frB
  rw [List.length_append]
  omega
theorem byte_of (a : Int) : ∃ x : Int, IntKind.u8.wrap a = x ∧ a % 256 = x ∧ 0 ≤ x ∧ x ≤ 255 := by
  refine ⟨a % 256, ?_, rfl, by omega, by omega⟩
  simp [IntKind.wrap, IntKind.signed, IntKind.bits]
/-- under way -/
structure Bk (w W : World) (G : Nat) (d : Dg) (ao : Option Addr) (n c : Nat) (A : List Int) : Prop where
  box : DiBox W G (mkD d)
  bel : Below w.heap.size w W
  src : U.Src W ao n c A
  dg : DgOk W d
theorem Bk.below {G n c : Nat} {d : Dg} {ao : Option Addr} {A : List Int} (h : Bk w W G d ao n c A) (b : Below W.heap.size W W') : Bk w W' G d ao n c A := ⟨h.box.below b, h.bel.trans (b.mono h.bel.size), h.src.below b, h.dg.below b⟩
theorem made4 (w : World) (d : Dg) (g : Nat) (hg : w.heap.size = g) : ∃ w' : World, (stDi (.pointer (some ⟨g, 0, none⟩)) (DiV (mkD d))).run Tryz.prog (w.alloc (.cells #[.slice none 0 0, .slice none 0 0, .slice none 0 0, .slice none 0 0] 27)) = .ok () w' ∧ DiBox w' g (mkD d) ∧ Below w.heap.size w w' := by
  obtain ⟨w', h1, h2, h3, -⟩ := madeDi w (mkD d) g hg
  exact ⟨w', h1, h2, h3⟩
theorem eq_zero {d : Dg} (w : World) (hA : DgOk w d) (e1 : d.h.P = pv0.P) (e2 : d.l.P = pv0.P) : Calls Tryz.prog 8 #[DiV (mkD d), .agg #[.slice none 0 0, .slice none 0 0, .slice none 0 0, .slice none 0 0]] w fun e w' => e = .returned (.bool true) ∧ Below w.heap.size w w' := by
  refine (requal14_any d dg0 w hA ⟨PSrc.zero w, PSrc.zero w⟩).mono ?_
  rintro e w' ⟨x, rfl, hx, b⟩
  obtain rfl : x = true := hx.2 ⟨e1, e2⟩
  exact ⟨rfl, b⟩
end Go.Proofs.YtbmjiedpaffifaaGreat
namespace Go.Proofs.YtbmjiedpaffifaaGreat.U
open Go.RowKit
variable {w w' w2 : World}

def strB (s : ByteArray) : List Int := s.data.toList.map fun b => (b.toNat : Int)
theorem strB_length (s : ByteArray) : (strB s).length = s.size := by rw [strB, List.length_map]; rfl
theorem strB_at (s : ByteArray) (j : Nat) (hj : j < s.size) : (strB s).getD j 0 = ((s.data.toList.getD j 0).toNat : Int) := by
  have hl : j < s.data.toList.length := hj
  rw [strB, List.getD_eq_getElem?_getD, List.getElem?_map, List.getD_eq_getElem?_getD, List.getElem?_eq_getElem hl]
  rfl
theorem conv_bs (w : World) (s : ByteArray) : ∃ (w' : World) (c : Nat), (convert 9 28 (.string s)).run Tryz.prog w = .ok (.slice (some ⟨w.heap.size, 0, none⟩) s.size c) w' ∧ BS w' (some ⟨w.heap.size, 0, none⟩) s.size c (strB s) ∧ Below w.heap.size w w' ∧ w'.heap.size = w.heap.size + 1 := by
  refine ⟨Lib.bytesWorld w 5 s, _, Lib.run_convert_string_bytes w 9 28 5 s Tryz.underlying9 Tryz.underlying28 Tryz.underlying5, ⟨strB_length s, (fun h => by cases h), fun ad ha t ht => ?_⟩, ⟨rfl, rfl, rfl, by rw [Lib.bytesWorld_size]; omega, fun k hk => Lib.bytesWorld_at_old w _ s k hk⟩, Lib.bytesWorld_size w _ s⟩
  obtain rfl := Option.some.inj ha
  rw [Addr.add_lit, Nat.zero_add, Lib.bytesWorld_cell w _ s t ht, strB_at s t ht]
theorem strB_nums (Z : List Int) (h : ∀ t, 0 ≤ Z.getD t 0 ∧ Z.getD t 0 ≤ 255) : strB (strOfNums Z) = Z := by
  unfold strB
  rw [strOfNums_data, List.map_map]
  refine List.ext_getElem (by simp) fun i h1 h2 => ?_
  have hb := h i
  rw [List.getD_eq_getElem?_getD, List.getElem?_eq_getElem h2] at hb
  simp only [List.getElem_map, Function.comp, Option.getD_some] at hb ⊢
  have : (UInt8.ofNat (Z[i]).toNat).toNat = (Z[i]).toNat := by
    rw [UInt8.toNat_ofNat']
    omega
  rw [this]
  omega
end Go.Proofs.YtbmjiedpaffifaaGreat.U
