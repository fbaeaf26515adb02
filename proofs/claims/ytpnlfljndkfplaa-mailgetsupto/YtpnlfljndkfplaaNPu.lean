/- mail.head, mail.Put. -/
import Derived.Test.YtpnlfljndkfplaaNCk
import Derived.Test.YtpnlfljndkfplaaUWr
import Derived.Test.YtpnlfljndkfplaaNPl
namespace Go.Proofs.Ytpnlfljndkfplaa
open Go.RowKit
attribute [local go_sem ↓] ldP_eq stP_eq ldM_eq stM_eq
attribute [local go_sem] to_MC MC_s0 MC_s1 MC_s2 MC_s3 MC_s4 MC_s5
variable {w w' w2 : World} {g : Nat}

/-- the parts, plain -/
def ptsOf (X : List Pt) (Y : List (List Int)) (n : Nat) : List Prt := (List.range n).map fun k => ((X.getD k pt0).cart.toNat, Y.getD k [])
theorem ptsOf_succ (X : List Pt) (Y : List (List Int)) (n : Nat) : ptsOf X Y (n + 1) = ptsOf X Y n ++ [((X.getD n pt0).cart.toNat, Y.getD n [])] := by
  unfold ptsOf
  rw [List.range_succ, List.map_append]
  rfl
theorem ptsOf_len (X : List Pt) (Y : List (List Int)) (n : Nat) : (ptsOf X Y n).length = n := by unfold ptsOf; simp
theorem partsB_snoc (P : List Prt) (p : Prt) : partsB (P ++ [p]) = partsB P ++ partB p := by unfold partsB; simp
/-- each part's bytes -/
def PS (w : World) (pn : Nat) (X : List Pt) (Y : List (List Int)) : Prop := ∀ k, k < pn → Src w (X.getD k pt0).vo (X.getD k pt0).vn (X.getD k pt0).vc (Y.getD k [])
theorem PS.below {pn : Nat} {X : List Pt} {Y : List (List Int)} (h : PS w pn X Y) (hb : Below w.heap.size w w') : PS w' pn X Y := fun k hk => (h k hk).below hb
/-- the mail, plain -/
def pmOf (a b c d e : Int) (pn : Nat) (X : List Pt) (Y : List (List Int)) : Pm := ⟨a.toNat, b.toNat, c.toNat, d.toNat, e.toNat, ptsOf X Y pn⟩
/-- the first numbers' bytes -/
def hB (L : List Nat) (k : Nat) : List Int := (L.take k).flatMap numB
theorem hB_all (a b c d e n : Nat) : hB [a, b, c, d, e, n] 6 = numB a ++ (numB b ++ (numB c ++ (numB d ++ (numB e ++ numB n)))) := by simp [hB]
theorem mailB_eq (a b c d e : Int) (pn : Nat) (X : List Pt) (Y : List (List Int)) : mailB (pmOf a b c d e pn X Y) = hB [a.toNat, b.toNat, c.toNat, d.toNat, e.toNat, pn] 6 ++ partsB (ptsOf X Y pn) := by
  rw [hB_all]
  unfold mailB pmOf
  simp only [ptsOf_len, List.append_assoc]
theorem hB_succ (L : List Nat) (k : Nat) (h : k < L.length) : hB L (k + 1) = hB L k ++ numB (L.getD k 0) := by
  unfold hB
  rw [List.take_add_one, List.flatMap_append, List.getD_eq_getElem?_getD, List.getElem?_eq_getElem h]
  simp
theorem hB_le (L : List Nat) (k : Nat) (h : k ≤ 6) : (hB L k).length ≤ (hB L 6).length := by
  have e := (List.take_append_drop k (L.take 6)).symm
  rw [List.take_take, Nat.min_eq_left h] at e
  have e2 := congrArg (fun l => (l.flatMap numB).length) e
  simp only [List.flatMap_append, List.length_append] at e2
  unfold hB
  omega
theorem partsB_le (X : List Pt) (Y : List (List Int)) : ∀ (n k : Nat), k ≤ n → (partsB (ptsOf X Y k)).length ≤ (partsB (ptsOf X Y n)).length
  | 0, k, h => by
    have hk : k = 0 := by omega
    subst hk
    exact Nat.le_refl _
  | n + 1, k, h => by
    by_cases hk : k = n + 1
    · subst hk; exact Nat.le_refl _
    · have := partsB_le X Y n k (by omega)
      rw [ptsOf_succ, partsB_snoc, List.length_append]
      omega
theorem resA {fn : Func} {p : Tmp} {cs : Array Value} (h : fn.results = #[.cell p 51]) {tmps : Array Value} (hp : tmps.getD p undef = .pointer (some ⟨g, 0, none⟩)) (A : w.heap[g]? = some (.cells cs 51 (0, 0))) (hs : cs.size = 6) :
    (results fn tmps).run Try.prog w = .ok (.agg cs) w := by
  have hr : w.rangeAt g 0 cs.toList := by
    intro j v hv
    rw [Nat.zero_add]
    simp only [Array.getElem?_toList] at hv
    simp [World.cell?, A, hv]
  have hz : (Try.prog.info? 51).map (·.size) = some 6 := by kernel_rfl
  have hl := run_loadVar_mid (P := Try.prog) w g 0 51 cs.toList _ hr Try.underlying51 rfl (by rw [hz, Array.length_toList, hs])
  simp only [Array.toArray_toList] at hl
  simp only [results, h]
  rw [Array.getD_eq_getD_getElem?] at hp
  simp [hp, asAddr, hl]
abbrev A6 (a b c d e : Int) (n : Nat) : Value := .agg #[.int .i64 a, .int .i64 b, .int .i64 c, .int .i64 d, .int .i64 e, .int .i64 n]
set_option maxRecDepth 100000 in
theorem head_any (a b c d e : Int) (po : Option Addr) (pn pc : Nat) (w : World) : Calls Try.prog 24 #[MV ⟨a, b, c, d, e, po, pn, pc⟩] w fun r w' => r = .returned (A6 a b c d e pn) ∧ Below w.heap.size w w' := by
  obtain ⟨w1, hw1⟩ : ∃ w1, w.alloc (.cells (MC ⟨a, b, c, d, e, po, pn, pc⟩) 24) = w1 := ⟨_, rfl⟩
  obtain ⟨g, hg⟩ : ∃ g, w.heap.size = g := ⟨_, rfl⟩
  have HX := hide (bx_new w ⟨a, b, c, d, e, po, pn, pc⟩ hw1 hg)
  have b2 := below_new w1 (.cells #[.int .i64 0, .int .i64 0, .int .i64 0, .int .i64 0, .int .i64 0, .int .i64 0] 51)
  have M2 := HX.out.box.below b2
  have x0 := M2.c0
  have x1 := M2.c1
  have x2 := M2.c2
  have x3 := M2.c3
  have x4 := M2.c4
  have x5 := M2.c5
  simp only at x0 x1 x2 x3 x4 x5
  clear M2 b2
  go_enter Try.func24, Try.ntmps24
  go_wp2_with fail
  refine bodyPost_ret (resA rfl (show (Array.getD _ 2 undef) = .pointer (some ⟨w1.heap.size, 0, none⟩) from rfl) (heap_alloc_new w1 _) rfl) rfl ?_
  exact ⟨rfl, HX.out.bel.trans ((below_new w1 _).mono HX.out.bel.size)⟩
/-- what a put leaves of another block -/
theorem Puts.keep {ao : Option Addr} {Z Y : List Int} {sp : Bool} (h : Puts w w' g ao Z Y sp) (k : Nat) (hk : k < w.heap.size) (h1 : k ≠ g) (h2 : blk ao ≠ some k) : w'.heap[k]? = w.heap[k]? := by
  obtain ⟨_, _, _, _, _, K⟩ := h
  exact K.block k hk h1 (fun e => h2 e.symm)
/-- what Put answers -/
def PuA (w w' : World) (m : Pm) (r : Ending) : Prop := ∃ bo n cc, r = .returned (.tuple #[.slice bo n cc, .int .i64 0]) ∧ BR w' bo n cc (mailB m) ∧ NewB w w' bo
theorem in_bounds {a b c d e : Int} {po : Option Addr} {pn pc : Nat} {X : List Pt} (h : ckE ⟨a, b, c, d, e, po, pn, pc⟩ X = 0) : 0 ≤ a ∧ a ≤ 6 ∧ 0 ≤ b ∧ b ≤ 15 ∧ 0 ≤ c ∧ c ≤ 15 ∧ 0 ≤ d ∧ d ≤ e ∧ e ≤ 4611686018427387904 ∧ rise (-1) X = true := by
  have h1 : inForm ⟨a, b, c, d, e, po, pn, pc⟩ X = true := by
    unfold ckE at h
    split at h
    · assumption
    · cases h
  unfold inForm at h1
  simp only [Bool.and_eq_true, Bool.not_eq_true', decide_eq_false_iff_not] at h1
  obtain ⟨h2, h3, -, h4, h5⟩ := h1
  rw [isR_iff] at h2 h3
  unfold ofKind at h4
  split at h4
  · cases h4
  · rename_i hb
    simp only at hb
    have hk : 0 ≤ a ∧ a ≤ 6 := by
      unfold kindB at h4
      simp only at h4
      split at h4
      · omega
      · split at h4
        · omega
        · split at h4
          · omega
          · split at h4
            · omega
            · split at h4
              · omega
              · cases h4
    exact ⟨hk.1, hk.2, by omega, by omega, by omega, by omega, by omega, by omega, by omega, h5⟩
theorem rise_at : ∀ (X : List Pt) (b : Int) (k : Nat), rise b X = true → k < X.length → b < (X.getD k pt0).cart ∧ (X.getD k pt0).cart < 64
  | p :: X, b, 0, h, _ => by
    unfold rise at h
    simp only [Bool.and_eq_true, decide_eq_true_eq] at h
    exact h.1
  | p :: X, b, k + 1, h, hk => by
    unfold rise at h
    simp only [Bool.and_eq_true, decide_eq_true_eq] at h
    have := rise_at X p.cart k h.2 (by simpa using hk)
    exact ⟨by have h1 := this.1; show b < (X.getD k pt0).cart; omega, this.2⟩
  | [], _, _, _, hk => by simp at hk
theorem put_bad (a b c d e : Int) (po : Option Addr) (pn pc : Nat) (X : List Pt) (w : World) (S : PSrc w po pn pc X) (he : e ≤ 9223372036854775807) (hck : ckE ⟨a, b, c, d, e, po, pn, pc⟩ X = 1) : Calls Try.prog 11 #[MV ⟨a, b, c, d, e, po, pn, pc⟩] w fun r w' => r = .returned (.tuple #[.slice none 0 0, .int .i64 1]) ∧ Below w.heap.size w w' := by
  obtain ⟨w1, hw1⟩ : ∃ w1, w.alloc (.cells (MC ⟨a, b, c, d, e, po, pn, pc⟩) 24) = w1 := ⟨_, rfl⟩
  obtain ⟨g, hg⟩ : ∃ g, w.heap.size = g := ⟨_, rfl⟩
  have HX := hide (bx_new w ⟨a, b, c, d, e, po, pn, pc⟩ hw1 hg)
  have hl := run_ldM HX.out.box
  have hC := check_any a b c d e po pn pc X w1 (S.below HX.out.bel) he
  rw [hck] at hC
  have HC := hide hC
  have HB : Hid (Below w.heap.size w w1) := by show Below _ _ _; rw [hg]; exact hg ▸ HX.out.bel
  clear S he hck hC
  go_enter Try.func11, Try.ntmps11
  go_wp2_with fail
  refine HC.out.mono ?_
  rintro r w2 ⟨rfl, b2⟩
  have HB2 := hide (HB.out.trans (b2.mono HB.out.size))
  clear b2 hl
  go_wp2_with fail
  go_ret2
  exact ⟨rfl, HB2.out⟩
set_option maxRecDepth 100000 in
set_option maxHeartbeats 2000000 in
theorem put_ok (a b c d e : Int) (po : Option Addr) (pn pc : Nat) (X : List Pt) (Y : List (List Int)) (w : World) (S : PSrc w po pn pc X) (hY : PS w pn X Y) (hck : ckE ⟨a, b, c, d, e, po, pn, pc⟩ X = 0) (ht : (mailB (pmOf a b c d e pn X Y)).length ≤ 140737488354000) : Calls Try.prog 11 #[MV ⟨a, b, c, d, e, po, pn, pc⟩] w fun r w' => PuA w w' (pmOf a b c d e pn X Y) r := by
  have hb := in_bounds hck
  obtain ⟨w1, hw1⟩ : ∃ w1, w.alloc (.cells (MC ⟨a, b, c, d, e, po, pn, pc⟩) 24) = w1 := ⟨_, rfl⟩
  obtain ⟨g, hg⟩ : ∃ g, w.heap.size = g := ⟨_, rfl⟩
  have HX := hide (bx_new w ⟨a, b, c, d, e, po, pn, pc⟩ hw1 hg)
  have hl := run_ldM HX.out.box
  have hC := check_any a b c d e po pn pc X w1 (S.below HX.out.bel) (by omega)
  rw [hck] at hC
  have HC := hide hC
  have HS := hide S
  have HY := hide hY
  have HB : Hid (Below w.heap.size w w1) := by show Below _ _ _; rw [hg]; exact hg ▸ HX.out.bel
  have HF : Hid (0 ≤ a ∧ a ≤ 6 ∧ 0 ≤ b ∧ b ≤ 15 ∧ 0 ≤ c ∧ c ≤ 15 ∧ 0 ≤ d ∧ d ≤ e ∧ e ≤ 4611686018427387904 ∧ pn ≤ 4398046511104) := ⟨hb.1, hb.2.1, hb.2.2.1, hb.2.2.2.1, hb.2.2.2.2.1, hb.2.2.2.2.2.1, hb.2.2.2.2.2.2.1, hb.2.2.2.2.2.2.2.1, hb.2.2.2.2.2.2.2.2.1, S.big⟩
  have HRi : Hid (∀ k, k < pn → 0 ≤ (X.getD k pt0).cart ∧ (X.getD k pt0).cart < 64) := fun k hk => by have := rise_at X (-1) k hb.2.2.2.2.2.2.2.2.2 (by rw [S.len]; exact hk); omega
  have HT : Hid ((∀ k, k < 6 → (hB [a.toNat, b.toNat, c.toNat, d.toNat, e.toNat, pn] k).length ≤ 140737488354000) ∧ ∀ k, k ≤ pn → (hB [a.toNat, b.toNat, c.toNat, d.toNat, e.toNat, pn] 6).length + (partsB (ptsOf X Y k)).length ≤ 140737488354000) := by
    rw [mailB_eq, List.length_append] at ht
    refine ⟨fun k hk => ?_, fun k hk => ?_⟩
    · have := hB_le [a.toNat, b.toNat, c.toNat, d.toNat, e.toNat, pn] k (by omega)
      omega
    · have := partsB_le X Y pn k hk
      omega
  clear S hck hC hY hb ht
  go_enter Try.func11, Try.ntmps11
  go_wp2_with fail
  refine HC.out.mono ?_
  rintro r w3 ⟨rfl, b3⟩
  have M3 := HX.out.box.below b3
  have HB3 := hide (HB.out.trans (b3.mono HB.out.size))
  have HM3 := hide M3
  clear b3 hl HC M3
  go_wp2_with fail
  refine (new_any w3).mono ?_
  rintro r w4 ⟨rfl, rfl⟩
  have W4 := wk_new w3
  obtain ⟨g1, hg1⟩ : ∃ g1, w3.heap.size = g1 := ⟨_, rfl⟩
  have hl4 := run_ldM (HM3.out.below W4.bel)
  have HH := hide (head_any a b c d e po pn pc (w3.alloc (.cells #[.slice none 0 0, .bool false] 68)))
  have HW4 := hide W4
  clear W4
  go_wp2_with fail
  refine HH.out.mono ?_
  rintro r w5 ⟨rfl, b5⟩
  have HW5 := hide (HW4.out.below b5)
  rw [hg1] at HW5
  clear b5 HW4 hl4 HH
  go_wp2_with fail
  go_loopw [18] (fun i wr => ∃ k : Nat, k ≤ 6 ∧ i = .int .i64 k ∧ ∃ ao n cp, Hid (Wk w3 wr g1 ao n cp (hB [a.toNat, b.toNat, c.toNat, d.toNat, e.toNat, pn] k))) (fun i _ => 6 - (intOf i).toNat)
  case atStart => exact ⟨0, by decide, rfl, _, _, _, HW5⟩
  case round =>
    clear HW5
    obtain ⟨k, hk, rfl, ao, n, cp, HW⟩ := hrel
    by_cases h6 : k < 6
    · as_aux_lemma =>
        match k, h6 with
        | 0, _ =>
          have HC := hide (wnum_any ao n cp _ false a.toNat wr HW.out.w (fun h => by cases h) (by have := HF.out; omega) (by have := HW.out.len; have := HT.out.1 0 (by decide); omega))
          rw [show ((a.toNat : Nat) : Int) = a by have := HF.out; omega] at HC
          have hix : (Instr.index 51 (A6 a b c d e pn) (.int .i64 0)).run Try.prog wr = .ok (.int .i64 a) wr := by kernel_rfl
          go_wp2_with fail
          refine HC.out.mono ?_
          rintro r w5 ⟨rfl, P5⟩
          obtain ⟨bo, m, cc, W5⟩ := HW.out.put P5
          have HW5 : Hid (Wk w3 w5 g1 bo m cc (hB [a.toNat, b.toNat, c.toNat, d.toNat, e.toNat, pn] 1)) := by show Wk _ _ _ _ _ _ _; rw [hB_succ _ 0 (by simp)]; exact W5
          clear P5 W5 HC
          go_wp2_with fail
          go_roundw
          case rel => exact ⟨1, by decide, rfl, _, _, _, HW5⟩
          case measure => simp [intOf]
        | 1, _ =>
          have HC := hide (wnum_any ao n cp _ false b.toNat wr HW.out.w (fun h => by cases h) (by have := HF.out; omega) (by have := HW.out.len; have := HT.out.1 1 (by decide); omega))
          rw [show ((b.toNat : Nat) : Int) = b by have := HF.out; omega] at HC
          have hix : (Instr.index 51 (A6 a b c d e pn) (.int .i64 1)).run Try.prog wr = .ok (.int .i64 b) wr := by kernel_rfl
          go_wp2_with fail
          refine HC.out.mono ?_
          rintro r w5 ⟨rfl, P5⟩
          obtain ⟨bo, m, cc, W5⟩ := HW.out.put P5
          have HW5 : Hid (Wk w3 w5 g1 bo m cc (hB [a.toNat, b.toNat, c.toNat, d.toNat, e.toNat, pn] 2)) := by show Wk _ _ _ _ _ _ _; rw [hB_succ _ 1 (by simp)]; exact W5
          clear P5 W5 HC
          go_wp2_with fail
          go_roundw
          case rel => exact ⟨2, by decide, rfl, _, _, _, HW5⟩
          case measure => simp [intOf]
        | 2, _ =>
          have HC := hide (wnum_any ao n cp _ false c.toNat wr HW.out.w (fun h => by cases h) (by have := HF.out; omega) (by have := HW.out.len; have := HT.out.1 2 (by decide); omega))
          rw [show ((c.toNat : Nat) : Int) = c by have := HF.out; omega] at HC
          have hix : (Instr.index 51 (A6 a b c d e pn) (.int .i64 2)).run Try.prog wr = .ok (.int .i64 c) wr := by kernel_rfl
          go_wp2_with fail
          refine HC.out.mono ?_
          rintro r w5 ⟨rfl, P5⟩
          obtain ⟨bo, m, cc, W5⟩ := HW.out.put P5
          have HW5 : Hid (Wk w3 w5 g1 bo m cc (hB [a.toNat, b.toNat, c.toNat, d.toNat, e.toNat, pn] 3)) := by show Wk _ _ _ _ _ _ _; rw [hB_succ _ 2 (by simp)]; exact W5
          clear P5 W5 HC
          go_wp2_with fail
          go_roundw
          case rel => exact ⟨3, by decide, rfl, _, _, _, HW5⟩
          case measure => simp [intOf]
        | 3, _ =>
          have HC := hide (wnum_any ao n cp _ false d.toNat wr HW.out.w (fun h => by cases h) (by have := HF.out; omega) (by have := HW.out.len; have := HT.out.1 3 (by decide); omega))
          rw [show ((d.toNat : Nat) : Int) = d by have := HF.out; omega] at HC
          have hix : (Instr.index 51 (A6 a b c d e pn) (.int .i64 3)).run Try.prog wr = .ok (.int .i64 d) wr := by kernel_rfl
          go_wp2_with fail
          refine HC.out.mono ?_
          rintro r w5 ⟨rfl, P5⟩
          obtain ⟨bo, m, cc, W5⟩ := HW.out.put P5
          have HW5 : Hid (Wk w3 w5 g1 bo m cc (hB [a.toNat, b.toNat, c.toNat, d.toNat, e.toNat, pn] 4)) := by show Wk _ _ _ _ _ _ _; rw [hB_succ _ 3 (by simp)]; exact W5
          clear P5 W5 HC
          go_wp2_with fail
          go_roundw
          case rel => exact ⟨4, by decide, rfl, _, _, _, HW5⟩
          case measure => simp [intOf]
        | 4, _ =>
          have HC := hide (wnum_any ao n cp _ false e.toNat wr HW.out.w (fun h => by cases h) (by have := HF.out; omega) (by have := HW.out.len; have := HT.out.1 4 (by decide); omega))
          rw [show ((e.toNat : Nat) : Int) = e by have := HF.out; omega] at HC
          have hix : (Instr.index 51 (A6 a b c d e pn) (.int .i64 4)).run Try.prog wr = .ok (.int .i64 e) wr := by kernel_rfl
          go_wp2_with fail
          refine HC.out.mono ?_
          rintro r w5 ⟨rfl, P5⟩
          obtain ⟨bo, m, cc, W5⟩ := HW.out.put P5
          have HW5 : Hid (Wk w3 w5 g1 bo m cc (hB [a.toNat, b.toNat, c.toNat, d.toNat, e.toNat, pn] 5)) := by show Wk _ _ _ _ _ _ _; rw [hB_succ _ 4 (by simp)]; exact W5
          clear P5 W5 HC
          go_wp2_with fail
          go_roundw
          case rel => exact ⟨5, by decide, rfl, _, _, _, HW5⟩
          case measure => simp [intOf]
        | 5, _ =>
          have HC := hide (wnum_any ao n cp _ false pn wr HW.out.w (fun h => by cases h) (by have := HF.out; omega) (by have := HW.out.len; have := HT.out.1 5 (by decide); omega))
          rw [show ((pn : Nat) : Int) = (pn : Int) by have := HF.out; omega] at HC
          have hix : (Instr.index 51 (A6 a b c d e pn) (.int .i64 5)).run Try.prog wr = .ok (.int .i64 (pn : Int)) wr := by kernel_rfl
          go_wp2_with fail
          refine HC.out.mono ?_
          rintro r w5 ⟨rfl, P5⟩
          obtain ⟨bo, m, cc, W5⟩ := HW.out.put P5
          have HW5 : Hid (Wk w3 w5 g1 bo m cc (hB [a.toNat, b.toNat, c.toNat, d.toNat, e.toNat, pn] 6)) := by show Wk _ _ _ _ _ _ _; rw [hB_succ _ 5 (by simp)]; exact W5
          clear P5 W5 HC
          go_wp2_with fail
          go_roundw
          case rel => exact ⟨6, by decide, rfl, _, _, _, HW5⟩
          case measure => simp [intOf]
    · have e6 : k = 6 := by omega
      rw [e6] at HW
      have hnl : ¬ (k : Int) < 6 := by omega
      clear e6
      have M5 := HM3.out.below HW.out.bel
      have x5 := M5.c5
      simp only at x5
      clear M5
      go_wp2_with fail
      go_loopw [28] (fun i wq => ∃ k : Nat, k ≤ pn ∧ i = .int .i64 k ∧ ∃ ao n cp, Hid (Wk w3 wq g1 ao n cp (hB [a.toNat, b.toNat, c.toNat, d.toNat, e.toNat, pn] 6 ++ partsB (ptsOf X Y k)))) (fun i _ => pn - (intOf i).toNat)
      case atStart => exact ⟨0, Nat.zero_le _, rfl, _, _, _, by show Wk _ _ _ _ _ _ (_ ++ []); rw [List.append_nil]; exact HW.out⟩
      case round =>
        clear x5 HW hk h6 hnl
        obtain ⟨k, hk, rfl, ao, n, cp, HW⟩ := hrel
        by_cases hlt : k < pn
        · have HLT := hide hlt
          have HK1 : Hid (wrap64 ((k : Int) + 1) = ((k + 1 : Nat) : Int)) := by show _ = _; have := HF.out; rw [w64 (by omega) (by omega)]; rfl
          have hbq : Below w.heap.size w wr := HB3.out.trans (HW.out.bel.mono HB3.out.size)
          obtain ⟨bb, oo, rfl, A0⟩ := (HS.out.below hbq).at k hlt
          have hY0 := HY.out k hlt
          have hR := HRi.out k hlt
          have hT := HT.out.2 (k + 1) hlt
          have hP := ptsOf_succ X Y k
          obtain ⟨⟨ct, vo, vn, vc⟩, hp⟩ : ∃ p, X.getD k pt0 = p := ⟨_, rfl⟩
          rw [hp] at A0 hY0 hR hP
          simp only at hY0 hR hP
          obtain ⟨Z, hZ⟩ : ∃ Z, Y.getD k [] = Z := ⟨_, rfl⟩
          rw [hZ] at hY0 hP
          have hvn : Z.length = vn := hY0.1
          have hB2 : partsB (ptsOf X Y (k + 1)) = partsB (ptsOf X Y k) ++ (numB ct.toNat ++ (numB vn ++ Z)) := by
            rw [hP, partsB_snoc]
            unfold partB frm
            simp only [hvn]
          have hTl := congrArg List.length hB2
          simp only [List.length_append, hvn] at hTl
          have hWl := HW.out.len
          rw [List.length_append] at hWl
          have hld := run_ldP A0
          obtain ⟨g2, hg2⟩ : ∃ g2, wr.heap.size = g2 := ⟨_, rfl⟩
          obtain ⟨w6, hst0, P6, b6, z6⟩ := madeP wr ⟨ct, vo, vn, vc⟩ g2 hg2
          have hst : (stP (.pointer (some ⟨g2, 0, none⟩)) (.agg (PC ⟨ct, vo, vn, vc⟩))).run Try.prog (wr.alloc (.cells #[.int .i64 0, .slice none 0 0] 46)) = .ok () w6 := hst0
          have W6 := HW.out.below b6
          have HC1 := hide (wnum_any ao n cp _ false ct.toNat w6 W6.w (fun h => by cases h) (by omega) (by omega))
          rw [show ((ct.toNat : Nat) : Int) = ct by omega] at HC1
          have y0 := P6.at.c0
          simp only at y0
          have HP6 := hide P6
          have HW6 := hide W6
          have HG : Hid (g2 ≠ g1 ∧ blk ao ≠ some g2 ∧ g2 < w6.heap.size) := ⟨fun h => by have := HW.out.w.lt; omega, fun h => by have := HW.out.w.row.lt g2 h; omega, P6.lt⟩
          have HTT : Hid (n + ((numB ct.toNat).length + ((numB vn).length + vn)) ≤ 140737488354000) := by show _ ≤ _; omega
          have HB3' : Hid (partsB (ptsOf X Y (k + 1)) = partsB (ptsOf X Y k) ++ (numB ct.toNat ++ (numB vn ++ Z))) := hB2
          have HYs := hide hY0
          clear hbq A0 hY0 hR hT hP hp hZ hvn hB2 hTl hWl hst0 P6 b6 z6 W6
          go_wp2_with fail
          refine HC1.out.mono ?_
          rintro r w7 ⟨rfl, P7⟩
          have hk7 := P7.keep g2 HG.out.2.2 HG.out.1 HG.out.2.1
          have y1 := (show PBox w7 g2 ⟨ct, vo, vn, vc⟩ from hk7.trans HP6.out).at.c1
          rw [Addr.add_lit] at y1
          obtain ⟨bo, m, cc, W7⟩ := HW6.out.put P7
          have hl7 := W7.len
          have hl6 := HW6.out.len
          rw [List.length_append, hl6] at hl7
          have b7 := HB3.out.trans (W7.bel.mono HB3.out.size)
          have S7 := HYs.out.below b7
          have HC2 := hide (wframe_any bo m cc _ false vo vn vc Z w7 W7.w (fun h => by cases h) S7.bs (fun h0 j e x => by
            have h1 := HYs.out.bs.lt h0 j e
            have h2 := W7.row j x
            have h3 := HB3.out.size
            omega) (by have := HTT.out; omega))
          have HW7 := hide W7
          clear P7 W7 hk7 hl7 hl6 b7 S7 HC1 y0
          simp only at y1
          go_wp2_with fail
          refine HC2.out.mono ?_
          rintro r w8 ⟨rfl, P8⟩
          obtain ⟨bo2, m2, cc2, W8⟩ := HW7.out.put P8
          have HW8 : Hid (Wk w3 w8 g1 bo2 m2 cc2 (hB [a.toNat, b.toNat, c.toNat, d.toNat, e.toNat, pn] 6 ++ partsB (ptsOf X Y (k + 1)))) := by
            show Wk _ _ _ _ _ _ _
            rw [HB3'.out]
            simpa only [List.append_assoc] using W8
          clear P8 W8 HC2 HW7 y1
          go_wp2_with fail
          go_roundw
          case rel => exact ⟨k + 1, HLT.out, by rw [HK1.out], _, _, _, HW8⟩
          case measure => rw [HK1.out]; have := HLT.out; simp [intOf]; omega
        · obtain rfl : k = pn := by omega
          have hl := HW.out.len
          have hT := HT.out.2 k (Nat.le_refl _)
          rw [List.length_append] at hl
          have HD := hide (done_ok ao n cp _ wr HW.out.w (by omega))
          have HBw := hide (HB3.out.trans (HW.out.bel.mono HB3.out.size))
          have HPm : Hid (mailB (pmOf a b c d e k X Y) = hB [a.toNat, b.toNat, c.toNat, d.toNat, e.toNat, k] 6 ++ partsB (ptsOf X Y k)) := mailB_eq a b c d e k X Y
          clear hl hT
          go_wp2_with fail
          refine HD.out.mono ?_
          rintro r w9 ⟨bo, cc, rfl, B9, N9⟩
          have HE : Hid (PuA w w9 (pmOf a b c d e k X Y) (.returned (.tuple #[.slice bo n cc, .int .i64 0]))) := ⟨bo, n, cc, rfl, by rw [HPm.out]; exact B9, N9.pre HBw.out⟩
          clear B9 N9 HD
          go_wp2_with fail
          go_ret2
          exact HE.out
end Go.Proofs.Ytpnlfljndkfplaa
