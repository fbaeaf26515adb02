/- mail.Get. -/
import Derived.Test.YtpnlfljndkfplaaNGt
import Derived.Test.YtpnlfljndkfplaaUBe
namespace Go.Proofs.Ytpnlfljndkfplaa
open Go.RowKit
attribute [local go_sem ↓] ldP_eq stP_eq ldM_eq stM_eq mkP_eq
attribute [local go_sem] to_MC MC_s0 MC_s1 MC_s2 MC_s3 MC_s4 MC_s5
variable {w w' w2 wr : World} {g g2 g3 : Nat} {ro so : Option Addr} {rn rc sn sc : Nat} {Z : List Int} {m : Ml}

/-- the mail's form, plain -/
def ckP (p : Pm) : Int := ckE ⟨p.kind, p.fr, p.to_, p.lo, p.hi, none, p.parts.length, 0⟩ (p.parts.map fun q => ⟨(q.1 : Int), none, 0, 0⟩)
theorem rise_map : ∀ (X X' : List Pt) (b : Int), X.map (·.cart) = X'.map (·.cart) → rise b X = rise b X'
  | [], [], _, _ => rfl
  | [], _ :: _, _, h => by simp at h
  | _ :: _, [], _, h => by simp at h
  | p :: X, q :: X', b, h => by
    simp only [List.map_cons, List.cons.injEq] at h
    unfold rise
    rw [h.1, rise_map X X' q.cart h.2]
theorem carts_of {X : List Pt} {Y : List (List Int)} {n : Nat} (hl : X.length = n) (hc : ∀ k, k < n → 0 ≤ (X.getD k pt0).cart) : X.map (·.cart) = ((ptsOf X Y n).map fun q => (⟨(q.1 : Int), none, 0, 0⟩ : Pt)).map (·.cart) := by
  refine List.ext_getElem? fun k => ?_
  by_cases hk : k < n
  · have h0 := hc k hk
    have h1 : X[k]? = some (X.getD k pt0) := by rw [List.getD_eq_getElem?_getD, List.getElem?_eq_getElem (by omega)]; rfl
    simp only [List.getElem?_map, h1, Option.map_some, ptsOf, List.getElem?_range hk]
    congr 1
    omega
  · rw [List.getElem?_eq_none (by simp; omega), List.getElem?_eq_none (by simp [ptsOf_len]; omega)]
theorem MlIs.ck {n0 : Nat} {p : Pm} {a : Ml} {X : List Pt} {Y : List (List Int)} (h : MlIs n0 w p a X Y) : ckE a X = ckP p := by
  obtain ⟨h1, h2, h3, h4, h5, h6⟩ := h.nums
  have hr : rise (-1) X = rise (-1) (p.parts.map fun q => ⟨(q.1 : Int), none, 0, 0⟩) := by
    refine rise_map _ _ _ ?_
    rw [carts_of (Y := Y) h.src.len h.carts, h.pts]
  unfold ckP ckE inForm ofKind kindB
  rw [hr]
  simp only [h1, h2, h3, h4, h5, h6]
/-- what next's caller leaves -/
def G1P (w : World) (g gm : Nat) (Z : List Int) (r : Ending) (w' : World) : Prop :=
  (w'.os = w.os ∧ w'.tape = w.tape ∧ w'.output = w.output ∧ w.heap.size ≤ w'.heap.size ∧ ∀ k, k < w.heap.size → k ≠ g → k ≠ gm → w'.heap[k]? = w.heap[k]?) ∧
  ((∃ p R a X Y so sc, pMail Z = some (p, R) ∧ r = .returned (.tuple #[]) ∧ MlIs w.heap.size w' p a X Y ∧ MBox w' gm a ∧ Rdr w' g so R.length sc 0 false) ∨
    (pMail Z = none ∧ r = .panicked (ups g) ∧ ∃ e, e ≠ 0 ∧ Rdr w' g none 0 0 e false))
set_option maxRecDepth 100000 in
theorem get1_any {gm : Nat} (R : RL w g ro rn rc Z) (hr : rn ≠ 0 → ∀ k, blk ro = some k → k < w.heap.size) (M : MBox w gm m) (hn : gm ≠ g) : Calls Try.prog 31 #[ptr g, ptr gm] w fun r w' => G1P w g gm Z r w' := by
  have HC := hide (next_any ro rn rc Z w R hr)
  have HM := hide M
  have HG : Hid (gm ≠ g ∧ g < w.heap.size) := ⟨hn, R.r.lt⟩
  clear R hr M hn
  go_enter Try.func31, Try.ntmps31
  go_wp2_with fail
  refine HC.out.mono ?_
  rintro r w2 (⟨p, R, a, X, Y, so, sn, sc, hp, rfl, hM, RR, K⟩ | ⟨hp, rfl, e, he, RR, K⟩)
  · have M2 : MBox w2 gm m := (K.block gm HM.out.lt HG.out.1).trans HM.out
    have hs := run_stM (m' := a) M2
    have hlt := HM.out.lt
    have HE : Hid (G1P w g gm Z (.returned (.tuple #[])) (w2.setRow gm (MC a))) := by
      refine ⟨⟨K.os, K.tape, K.output, by simpa [World.setRow] using K.size, fun k hk h1 h2 => (setRow_other _ _ _ _ h2).trans (K.block k hk h1)⟩, Or.inl ⟨p, R, a, X, Y, so, sc, hp, rfl, hM.keep (by simp [World.setRow]) (fun k h1 h2 => setRow_other _ _ _ _ (by omega)), M2.setRow, ?_⟩⟩
      have := RR.len
      rw [this]
      exact (setRow_other _ _ _ _ (Ne.symm HG.out.1)).trans RR.r
    clear hp hM RR K M2 hlt HC
    go_wp2_with fail
    go_end0
    exact HE.out
  · have HE : Hid (G1P w g gm Z (.panicked (ups g)) w2) := ⟨⟨K.os, K.tape, K.output, K.size, fun k hk h1 _ => K.block k hk h1⟩, Or.inr ⟨hp, rfl, e, he, RR⟩⟩
    clear hp he RR K HC
    go_wp2_with fail
    exact ⟨rfl, HE.out⟩
/-- what Get answers -/
def GtA (w w' : World) (Z : List Int) (r : Ending) : Prop := Below w.heap.size w w' ∧
  ((∃ p a X Y, pMail Z = some (p, []) ∧ ckP p = 0 ∧ r = .returned (.tuple #[MV a, .int .i64 0]) ∧ MlIs w.heap.size w' p a X Y) ∨
    ((∀ p, pMail Z = some (p, []) → ckP p ≠ 0) ∧ r = .returned (.tuple #[MV ⟨0, 0, 0, 0, 0, none, 0, 0⟩, .int .i64 8])))
/-- Read is behind us -/
def RdA (w w' : World) (gm : Nat) (Z : List Int) (err : Int) : Prop := Below w.heap.size w w' ∧
  ((∃ p R a X Y, pMail Z = some (p, R) ∧ err = endA R.length ∧ MlIs w.heap.size w' p a X Y ∧ MBox w' gm a) ∨ (pMail Z = none ∧ err ≠ 0))
theorem MlIs.mono {n0 n1 : Nat} {p : Pm} {a : Ml} {X : List Pt} {Y : List (List Int)} (h : MlIs n0 w p a X Y) (hn : n1 ≤ n0) : MlIs n1 w p a X Y :=
  ⟨h.nums, h.src, h.ps, h.pts, h.carts, fun b e => ⟨Nat.le_trans hn (h.new b e).1, (h.new b e).2⟩, fun k hk b e => ⟨Nat.le_trans hn (h.newB k hk b e).1, (h.newB k hk b e).2⟩⟩
theorem read_mail (ro : Option Addr) (rn rc : Nat) (Z : List Int) (gm : Nat) (w w1 : World) (S : Src w ro rn rc Z) (hcap : rn ≤ rc) (hz : rn ≤ 140737488355328) (hb1 : Below w.heap.size w w1) (hgm : w.heap.size ≤ gm) (M : MBox w1 gm ⟨0, 0, 0, 0, 0, none, 0, 0⟩) : Calls Try.prog 30 #[.slice ro rn rc, .func (.func 31) #[] #[ptr gm]] w1 fun r w' => ∃ err, r = .returned (.int .i64 err) ∧ RdA w w' gm Z err := by
  have hcf : ∀ (args : Array Value) (w : World), (callFunc 31 args).run Try.prog w = .ok (.enter 31 args) w := fun _ _ => rfl
  have G1 := beg w1 ro rn rc
  obtain ⟨W1, hW1⟩ : ∃ W1, W0 w1 ro rn rc = W1 := ⟨_, rfl⟩
  rw [hW1] at G1
  have hb : Below w.heap.size w W1 := hb1.trans (G1.b.mono hb1.size)
  have hsz := G1.n.2
  have hlt : rn ≠ 0 → ∀ k, blk ro = some k → k < w.heap.size := fun h0 k e => by
    obtain ⟨ad, ha, hc⟩ := cell_at S 0 (by omega)
    have := World.block_lt_of_cell? _ _ hc
    rw [block_of_add] at this
    rw [ha] at e
    have : ad.block = k := Option.some.inj e
    omega
  have hs1 := hb1.size
  have hM1 := M.lt
  have hRL : RL W1 (w1.heap.size + 1) ro rn rc Z := ⟨G1.r, S.below hb, hcap, by omega, fun h0 e => by have := hlt h0 _ e; omega⟩
  have hf : Calls Try.prog 31 #[ptr (w1.heap.size + 1), ptr gm] W1 fun r w' => G1P W1 (w1.heap.size + 1) gm Z r w' :=
    get1_any hRL (fun h0 k e => by have := hlt h0 k e; omega) (M.below G1.b) (by omega)
  have hR := read_any ro rn rc 31 #[ptr gm] (G1P W1 (w1.heap.size + 1) gm Z) w1 hcf (by rw [hW1]; exact hf) (by
    rintro e w2 ⟨⟨-, -, -, -, K⟩, h⟩
    refine ⟨?_, (K _ (by omega) (by omega) (by omega)).trans G1.v, (K _ (by omega) (by omega) (by omega)).trans G1.e⟩
    rcases h with ⟨_, _, _, _, _, _, _, _, rfl, _, _, R⟩ | ⟨_, rfl, e, he, R⟩
    · exact ⟨_, _, .calm R⟩
    · exact ⟨_, _, .up R he⟩)
  refine hR.mono ?_
  rintro r w' ⟨e2, w2, gave, err, ⟨⟨k1, k2, k3, k4, K⟩, h⟩, hE, rfl, F⟩
  have hbel : Below w.heap.size w w' := ⟨F.os.trans (k1.trans hb.os), F.tape.trans (k2.trans hb.tape), F.output.trans (k3.trans hb.output), Nat.le_trans hb.size (Nat.le_trans k4 F.size), fun k hk => (F.block k (by omega) (by omega) (by omega)).trans ((K k (by omega) (by omega) (by omega)).trans (hb.block k hk))⟩
  refine ⟨err, rfl, hbel, ?_⟩
  rcases h with ⟨p, R, a, X, Y, so, sc, hp, rfl, hM, MB, RR⟩ | ⟨hp, rfl, e, he, RR⟩
  · refine Or.inl ⟨p, R, a, X, Y, hp, ?_, (hM.keep F.size (fun k h1 h2 => F.block k h2 (by omega) (by omega))).mono (by omega), (F.block gm MB.lt (by omega) (by omega)).trans MB⟩
    cases hE with
    | calm R' =>
      obtain ⟨h1, -⟩ := rdr_inj RR R'
      rw [h1]
  · refine Or.inr ⟨hp, ?_⟩
    cases hE with
    | up R' he' => exact he'
theorem ckP_01 (p : Pm) : ckP p = 0 ∨ ckP p = 1 := by unfold ckP ckE; split <;> simp
theorem MlIs.below {n0 : Nat} {p : Pm} {a : Ml} {X : List Pt} {Y : List (List Int)} (h : MlIs n0 w p a X Y) (hb : Below w.heap.size w w') : MlIs n0 w' p a X Y := h.keep hb.size (fun k _ hk => hb.block k hk)
set_option maxRecDepth 100000 in
set_option maxHeartbeats 4000000 in
theorem get_any (ro : Option Addr) (rn rc : Nat) (Z : List Int) (w : World) (S : Src w ro rn rc Z) (hcap : rn ≤ rc) (hz : rn ≤ 140737488355328) : Calls Try.prog 15 #[.slice ro rn rc] w fun r w' => GtA w w' Z r := by
  have hmf : ∀ (fn : Fn) (first cap : Array Value) (w : World), (Instr.makeFunc fn first cap).run Try.prog w = .ok (.func fn first cap) w := fun _ _ _ _ => rfl
  obtain ⟨w0, hw0⟩ : ∃ w0, w.alloc (.cells (MC ⟨0, 0, 0, 0, 0, none, 0, 0⟩) 24) = w0 := ⟨_, rfl⟩
  obtain ⟨g2, hg2⟩ : ∃ g2, w.heap.size = g2 := ⟨_, rfl⟩
  obtain ⟨w1, hw1⟩ : ∃ w1, w0.alloc (.cells (MC ⟨0, 0, 0, 0, 0, none, 0, 0⟩) 24) = w1 := ⟨_, rfl⟩
  obtain ⟨g3, hg3⟩ : ∃ g3, w0.heap.size = g3 := ⟨_, rfl⟩
  have X2 := bx_new w ⟨0, 0, 0, 0, 0, none, 0, 0⟩ hw0 hg2
  have X3 := bx_new w0 ⟨0, 0, 0, 0, 0, none, 0, 0⟩ hw1 hg3
  have hb1 := X2.bel.trans (X3.bel.mono X2.bel.size)
  have hs0 := X2.bel.size
  have hlt2 := X2.box.lt
  have hlt3 := X3.box.lt
  have S0 : Src w0 ro rn rc Z := S.below X2.bel
  have HR := hide (read_mail ro rn rc Z g3 w0 w1 S0 hcap hz X3.bel (by omega) X3.box)
  have HM : Hid (MBox w0 g2 ⟨0, 0, 0, 0, 0, none, 0, 0⟩ ∧ Below w.heap.size w w0 ∧ w.heap.size = g2) := ⟨X2.box, X2.bel, hg2⟩
  have HO : Hid (Oc Z) := S.2.2.2
  clear S S0 X2 X3 hb1 hs0 hlt2 hlt3 hcap hz
  go_enter Try.func15, Try.ntmps15
  go_wp2_with fail
  refine HR.out.mono ?_
  rintro r w2 ⟨err, rfl, b2, h⟩
  have HB2 := hide b2
  have M2 := HM.out.1.below b2
  clear HR b2
  have HF : Hid (∀ w3 : World, Below w0.heap.size w0 w3 → (∀ p, pMail Z = some (p, []) → ckP p ≠ 0) → GtA w (w3.setRow g2 (MC ⟨0, 0, 0, 0, 0, none, 0, 0⟩)) Z (.returned (.tuple #[MV ⟨0, 0, 0, 0, 0, none, 0, 0⟩, .int .i64 8]))) := fun w3 b3 h3 => ⟨below_setRow (HM.out.2.1.trans (b3.mono HM.out.2.1.size)) (by have := HM.out.2.2; omega), Or.inr ⟨h3, rfl⟩⟩
  by_cases he : err = 0
  · subst he
    obtain ⟨p, R, a, X, Y, hp, hR, hMl, MB⟩ : ∃ p R a X Y, pMail Z = some (p, R) ∧ (0 : Int) = endA R.length ∧ MlIs w0.heap.size w2 p a X Y ∧ MBox w2 g3 a := by
      rcases h with ⟨p, R, a, X, Y, hp, hR, hMl, MB⟩ | ⟨_, h0⟩
      · exact ⟨p, R, a, X, Y, hp, hR, hMl, MB⟩
      · exact absurd rfl h0
    have hR0 : R = [] := by
      cases R with
      | nil => rfl
      | cons x R => simp [endA] at hR
    subst hR0
    have hl := run_ldM MB
    obtain ⟨a1, a2, a3, a4, a5, po, pn, pc⟩ := a
    have hhi := hMl.nums.2.2.2.2.1
    have hck := hMl.ck
    have HCk := check_any a1 a2 a3 a4 a5 po pn pc X w2 hMl.src (by
      have h5 : a5 = (p.hi : Int) := hhi
      have := (pMail_of HO.out hp).2.2.2.2.2.1
      omega)
    rw [hck] at HCk
    have HC := hide HCk
    have HP := hide hp
    have HMl := hide hMl
    have HMB := hide MB
    have HM2 := hide M2
    clear h hp hR hMl MB M2 HCk hhi hck
    rcases ckP_01 p with hc | hc
    · rw [hc] at HC
      go_wp2_with fail
      refine HC.out.mono ?_
      rintro r w3 ⟨rfl, b3⟩
      have hl3 := run_ldM (HMB.out.below b3)
      have hs3 := run_stM (m' := ⟨a1, a2, a3, a4, a5, po, pn, pc⟩) (HM2.out.below b3)
      have HE : Hid (GtA w (w3.setRow g2 (MC ⟨a1, a2, a3, a4, a5, po, pn, pc⟩)) Z (.returned (.tuple #[MV ⟨a1, a2, a3, a4, a5, po, pn, pc⟩, .int .i64 0]))) := by
        have hs0 := HM.out.1.lt
        refine ⟨below_setRow (HM.out.2.1.trans ((HB2.out.trans (b3.mono HB2.out.size)).mono HM.out.2.1.size)) (by have := HM.out.2.2; omega), Or.inl ⟨p, _, X, Y, HP.out, hc, rfl, ((HMl.out.below b3).keep (by simp [World.setRow]) (fun k h1 h2 => setRow_other _ _ _ _ (by omega))).mono HM.out.2.1.size⟩⟩
      have HX := hide (MBox.setRow (m' := ⟨a1, a2, a3, a4, a5, po, pn, pc⟩) (HM2.out.below b3))
      clear hl b3
      go_wp2_with fail
      refine bodyPost_ret (resM rfl rfl rfl HX.out) rfl ?_
      exact HE.out
    · rw [hc] at HC
      go_wp2_with fail
      refine HC.out.mono ?_
      rintro r w3 ⟨rfl, b3⟩
      have hs3 := run_stM (m' := ⟨0, 0, 0, 0, 0, none, 0, 0⟩) (HM2.out.below b3)
      have HE := hide (HF.out w3 (HB2.out.trans (b3.mono HB2.out.size)) (fun q hq => by rw [HP.out] at hq; obtain rfl : p = q := (by simpa using hq); rw [hc]; decide))
      have HX := hide (MBox.setRow (m' := ⟨0, 0, 0, 0, 0, none, 0, 0⟩) (HM2.out.below b3))
      clear hl b3
      go_wp2_with fail
      refine bodyPost_ret (resM rfl rfl rfl HX.out) rfl ?_
      exact HE.out
  · have hne : (err != 0) = true := by simpa using he
    have hs3 := run_stM (m' := ⟨0, 0, 0, 0, 0, none, 0, 0⟩) M2
    have HE := hide (HF.out w2 HB2.out (fun q hq => by
      rcases h with ⟨p, R, a, X, Y, hp, hR, hMl, MB⟩ | ⟨hp, h0⟩
      · rw [hp] at hq
        simp only [Option.some.injEq, Prod.mk.injEq] at hq
        rw [hq.2] at hR
        exact absurd hR he
      · rw [hp] at hq; cases hq))
    have HX := hide (MBox.setRow (m' := ⟨0, 0, 0, 0, 0, none, 0, 0⟩) M2)
    clear h M2
    go_wp2_with fail
    refine bodyPost_ret (resM rfl rfl rfl HX.out) rfl ?_
    exact HE.out
end Go.Proofs.Ytpnlfljndkfplaa
