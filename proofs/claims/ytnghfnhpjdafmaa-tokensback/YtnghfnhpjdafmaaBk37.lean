/- FTo FTk FTp FIx -/
import Derived.Test.YtnghfnhpjdafmaaBk36
import Derived.Deep.MidRow
namespace Go.Proofs.Ytnghfnhpjdafmaa
open Go.RowKit
variable {w w' : World} {g : Nat}
structure TokV where
  cart : Int
  veco : Option Addr
  vecn : Nat
  vecc : Nat
  cloudo : Option Addr
  cloudn : Nat
  cloudc : Nat
def to0 : TokV := ⟨0, none, 0, 0, none, 0, 0⟩
def ToC (m : TokV) : Array Value := #[.int .i64 m.cart, .slice m.veco m.vecn m.vecc, .slice m.cloudo m.cloudn m.cloudc]
abbrev ToV (m : TokV) : Value := .agg (ToC m)
theorem ToC_size (m : TokV) : (ToC m).size = 3 := rfl
theorem ToC_one (m : TokV) : ∀ v ∈ (ToC m).toList, v.oneCell' = true := by
  intro v hv; simp [ToC] at hv; rcases hv with rfl | rfl | rfl <;> rfl
theorem cells_ToV (m : TokV) : (ToV m).cells = ToC m := by simp [Value.cells]
structure ToAt (w : World) (a : Addr) (m : TokV) : Prop where
  c0 : w.cell? a = some (.int .i64 m.cart)
  c1 : w.cell? (a.add 1) = some (.slice m.veco m.vecn m.vecc)
  c2 : w.cell? (a.add 2) = some (.slice m.cloudo m.cloudn m.cloudc)
theorem ToAt.on {a : Addr} {m : TokV} (S : ToAt w a m) (hb : Below w.heap.size w w') : ToAt w' a m := by
  have h0 := World.block_lt_of_cell? _ _ S.c0
  exact ⟨by rw [hb.cell h0]; exact S.c0, by rw [hb.cell (by rw [block_of_add]; exact h0)]; exact S.c1, by rw [hb.cell (by rw [block_of_add]; exact h0)]; exact S.c2⟩
def ToBox (w : World) (g : Nat) (m : TokV) : Prop := w.heap[g]? = some (.cells (ToC m) 52 (0, 0))
theorem ToBox.lt {m : TokV} (h : ToBox w g m) : g < w.heap.size := (Array.getElem?_eq_some_iff.1 h).1
theorem ToBox.below {m : TokV} (h : ToBox w g m) (hb : Below w.heap.size w w') : ToBox w' g m := (hb.block g h.lt).trans h
theorem ToBox.c0 {m : TokV} (h : ToBox w g m) : w.cell? ⟨g, 0, none⟩ = some (.int .i64 m.cart) := by unfold ToBox at h; simp [World.cell?, h, ToC]
theorem ToBox.c1 {m : TokV} (h : ToBox w g m) : w.cell? ⟨g, 1, none⟩ = some (.slice m.veco m.vecn m.vecc) := by unfold ToBox at h; simp [World.cell?, h, ToC]
theorem ToBox.c2 {m : TokV} (h : ToBox w g m) : w.cell? ⟨g, 2, none⟩ = some (.slice m.cloudo m.cloudn m.cloudc) := by unfold ToBox at h; simp [World.cell?, h, ToC]
theorem ToBox_new (w : World) (m : TokV) : ToBox (w.alloc (.cells (ToC m) 52)) w.heap.size m := by unfold ToBox; rw [heap_alloc_new]
def ldTo (v : Value) : Sem Value := Instr.loadAt 52 v
theorem ldTo_eq (v : Value) : Instr.loadAt 52 v = ldTo v := rfl
def stTo (p v : Value) : Sem Unit := Instr.storeAt 52 p v
theorem stTo_eq (p v : Value) : Instr.storeAt 52 p v = stTo p v := rfl
theorem sizeTo : (Try.prog.info? 52).map (·.size) = some 3 := by kernel_rfl
theorem ToBox.range {m : TokV} (h : ToBox w g m) : w.rangeAt g 0 (ToC m).toList := by
  intro j v hv
  rw [Nat.zero_add]
  unfold ToBox at h
  simp only [Array.getElem?_toList] at hv
  simp [World.cell?, h, hv]
theorem run_lvTo {m : TokV} (A : ToBox w g m) : (loadVar 52 ⟨g, 0, none⟩).run Try.prog w = .ok (ToV m) w := by
  have := run_loadVar_mid (P := Try.prog) w g 0 52 (ToC m).toList _ A.range Try.underlying52 rfl (by rw [sizeTo]; rfl)
  simpa using this
theorem run_ldTo {m : TokV} (A : ToBox w g m) : (ldTo (.pointer (some ⟨g, 0, none⟩))).run Try.prog w = .ok (.agg (ToC m)) w := by
  unfold ldTo
  simp only [Instr.loadAt, Instr.sureAddr, Sem.run_bind, Sem.run_pure, Result.andThen]
  exact run_lvTo A
theorem run_laTo {a : Addr} {m : TokV} (A : ToAt w a m) : (ldTo (.pointer (some a))).run Try.prog w = .ok (.agg (ToC m)) w := by
  have hl := run_loadCells_list (P := Try.prog) (w := w) a (ToC m).toList (fun j v hv => by
    match j, hv with
    | 0, hv => cases hv; rw [add_nought]; exact A.c0
    | 1, hv => cases hv; exact A.c1
    | 2, hv => cases hv; exact A.c2
    | j + 3, hv => simp [ToC] at hv)
  unfold ldTo
  simp only [Instr.loadAt, Instr.sureAddr, Sem.run_bind, Sem.run_pure, Result.andThen]
  cases hq : Try.prog.info? 52 with
  | none => have := sizeTo; simp [hq] at this
  | some x =>
    have hs : x.size = 3 := by have := sizeTo; simpa [hq] using this
    have hagg : (isAgg 52).run Try.prog w = .ok true w := by
      unfold isAgg
      rw [Sem.run_bind, run_underlying Try.underlying52 w]
      rfl
    have e2 : (ToC m).toList.length = 3 := rfl
    rw [e2] at hl
    simp [loadVar, Sem.run_bind, hagg, sizeOf, typeInfo, hq, hs, hl]
theorem run_stTo {m m' : TokV} (A : ToBox w g m) : (stTo (.pointer (some ⟨g, 0, none⟩)) (.agg (ToC m'))).run Try.prog w = .ok () (w.setRow g (ToC m')) := by
  unfold stTo
  have h := run_storeCells_from (P := Try.prog) g 52 (ToC m').toList 0 (ToC m) w A (by simp [ToC]) (ToC_one m')
  cases hq : Try.prog.info? 52 with
  | none => have := sizeTo; simp [hq] at this
  | some x =>
    have hs : x.size = 3 := by have := sizeTo; simpa [hq] using this
    simp only [Instr.storeAt, Instr.sureAddr, Sem.run_bind, Sem.run_pure, Result.andThen, storeVar, sizeOf, typeInfo, cells_ToV, ToC_size]
    simp at h
    simp [h, hq, hs]
theorem ToBox.setRow {m m' : TokV} (A : ToBox w g m) : ToBox (w.setRow g (ToC m')) g m' := setRow_heap w g _ _ _ _ A
theorem madeTo (w : World) (m : TokV) (g : Nat) (hg : w.heap.size = g) : ∃ w' : World, (stTo (.pointer (some ⟨g, 0, none⟩)) (.agg (ToC m))).run Try.prog (w.alloc (.cells (ToC to0) 52)) = .ok () w' ∧ ToBox w' g m ∧ Below w.heap.size w w' ∧ w'.heap.size = w.heap.size + 1 := by
  subst hg
  refine ⟨_, run_stTo (ToBox_new w _), (ToBox_new w _).setRow, below_setRow (below_new w _) (Nat.le_refl _), by simp [World.setRow]⟩
theorem res1To {m : TokV} {fn : Func} {p : Tmp} (h : fn.results = #[.cell p 52]) {tmps : Array Value} (hp : tmps.getD p undef = .pointer (some ⟨g, 0, none⟩)) (A : ToBox w g m) :
    (results fn tmps).run Try.prog w = .ok (ToV m) w := by
  have hl := run_lvTo A
  simp only [results, h]
  rw [Array.getD_eq_getD_getElem?] at hp
  simp [hp, asAddr, hl]
end Go.Proofs.Ytnghfnhpjdafmaa
namespace Go.Proofs.Ytnghfnhpjdafmaa
open Go.RowKit
attribute [local go_sem ↓] ldP_eq stP_eq ldTo_eq stTo_eq
attribute [local go_sem] zero_PC cells_PV PC_size cells_ToV ToC_size

/-- a token -/
def mkT (c : Int) (p : Pv) : TokV := ⟨c, p.vo, p.vn, p.vc, p.co, p.cn, p.cc⟩
theorem ToBox.ct {w : World} {g : Nat} {c : Int} {p : Pv} (h : ToBox w g (mkT c p)) : w.cell? ⟨g, 0, none⟩ = some (.int .i64 c) := h.c0
theorem ToBox.past {w : World} {g : Nat} {c : Int} {p : Pv} (h : ToBox w g (mkT c p)) : PAt w ⟨g, 1, none⟩ p := ⟨h.c1, h.c2⟩
def isC (c : Int) : Bool := decide (0 ≤ c) && decide (c < 64)
theorem isCart_any (c : Int) (w : World) : Calls Try.prog 79 #[.int .i64 c] w fun e w' => e = .returned (.bool (isC c)) ∧ w' = w := by
  go_enter Try.func79, Try.ntmps79
  by_cases h0 : 0 ≤ c
  · have HR : Hid (isC c = decide (c < 64)) := by show _ = _; unfold isC; rw [decide_eq_true h0, Bool.true_and]
    go_wp2
    go_ret
    exact ⟨by rw [HR.out]; rfl, rfl⟩
  · have HR : Hid (isC c = false) := by show _ = _; unfold isC; rw [decide_eq_false h0, Bool.false_and]
    go_wp2
    go_ret
    exact ⟨by rw [HR.out]; rfl, rfl⟩
/-- a token in form -/
def TokOk (c : Int) (P : Pst) : Prop := isC c = true ∧ InForm P
def CkT (c : Int) (P : Pst) (x : Int) : Prop := (x = 1 ∧ ¬ TokOk c P) ∨ (x = 0 ∧ TokOk c P)
theorem CkT.unique {c : Int} {P : Pst} {x y : Int} (h : CkT c P x) (k : CkT c P y) : x = y := by
  rcases h with ⟨rfl, h⟩ | ⟨rfl, h⟩ <;> rcases k with ⟨rfl, k⟩ | ⟨rfl, k⟩ <;> first | rfl | exact absurd h k | exact absurd k h
set_option maxRecDepth 100000 in
theorem tokCheck_any (c : Int) (p : Pv) (w : World) (hS : PSrc w p) : Calls Try.prog 33 #[ToV (mkT c p)] w fun e w' => ∃ x, e = .returned (.int .i64 x) ∧ CkT c p.P x ∧ Below w.heap.size w w' := by
  have HX := hide (ToBox_new w (mkT c p))
  have HB := hide (below_new w (.cells (ToC (mkT c p)) 52))
  have HS := hide (hS.below HB.out)
  clear hS
  obtain ⟨wk, hwk⟩ : ∃ wk, w.alloc (.cells (ToC (mkT c p)) 52) = wk := ⟨_, rfl⟩
  obtain ⟨G, hG⟩ : ∃ G, w.heap.size = G := ⟨_, rfl⟩
  rw [hwk] at HX HB HS
  rw [hG] at HX
  have c0 := HX.out.ct
  have l0 := run_ldP HX.out.past
  go_enter Try.func33, Try.ntmps33
  go_wp2_with fail
  clear hwk hG
  refine (isCart_any c _).mono ?_
  rintro e w' ⟨rfl, rfl⟩
  cases hc : isC c with
  | false =>
    have HN : Hid (CkT c p.P 1) := .inl ⟨rfl, fun h => by have := h.1; rw [hc] at this; cases this⟩
    clear hc
    go_wp2_with fail
    go_ret
    exact ⟨_, rfl, HN.out, HB.out⟩
  | true =>
    have HC := hide hc
    clear hc
    go_wp2_with fail
    refine (isNormP_any p _ HS.out).mono ?_
    rintro e w2 ⟨b, rfl, hb, b2⟩
    have HB2 := hide (HB.out.trans (b2.mono HB.out.size))
    clear b2 c0 l0
    cases b with
    | false =>
      have HN : Hid (CkT c p.P 1) := .inl ⟨rfl, fun h => by have := hb.out.2 h.2; cases this⟩
      clear hb
      go_wp2_with fail
      go_ret
      exact ⟨_, rfl, HN.out, HB2.out⟩
    | true =>
      have HN : Hid (CkT c p.P 0) := .inr ⟨rfl, HC.out, hb.out.1 rfl⟩
      clear hb
      go_wp2_with fail
      go_ret
      exact ⟨_, rfl, HN.out, HB2.out⟩
end Go.Proofs.Ytnghfnhpjdafmaa
namespace Go.Proofs.Ytnghfnhpjdafmaa
open Go.RowKit
attribute [local go_sem ↓] ldP_eq stP_eq ldTo_eq stTo_eq
attribute [local go_sem] zero_PC cells_PV PC_size cells_ToV ToC_size

def tokB (c : Int) (P : Pst) : List Int := nB c ++ pastB P
/-- what tokens.Put answers -/
def PutT (w w' : World) (e : Ending) (c : Int) (P : Pst) : Prop :=
  (¬ TokOk c P ∧ e = .returned (.tuple #[.slice none 0 0, .int .i64 1]) ∧ Below w.heap.size w w') ∨ (TokOk c P ∧ ∃ bo cc, e = .returned (.tuple #[.slice bo (tokB c P).length cc, .int .i64 0]) ∧ U.BR w' bo (tokB c P).length cc (tokB c P) ∧ U.NewB w w' bo)
set_option maxRecDepth 100000 in
set_option maxHeartbeats 1600000 in
theorem tokPut_any (c : Int) (p : Pv) (w : World) (hS : PSrc w p) : Calls Try.prog 32 #[ToV (mkT c p)] w fun e w' => PutT w w' e c p.P := by
  have HX := hide (ToBox_new w (mkT c p))
  have HB := hide (below_new w (.cells (ToC (mkT c p)) 52))
  have HS := hide (hS.below HB.out)
  clear hS
  obtain ⟨wk, hwk⟩ : ∃ wk, w.alloc (.cells (ToC (mkT c p)) 52) = wk := ⟨_, rfl⟩
  obtain ⟨G, hG⟩ : ∃ G, w.heap.size = G := ⟨_, rfl⟩
  rw [hwk] at HX HB HS
  rw [hG] at HX
  have l0 := run_ldTo HX.out
  go_enter Try.func32, Try.ntmps32
  go_wp2_with fail
  clear hwk hG
  refine (tokCheck_any c p _ HS.out).mono ?_
  rintro e w2 ⟨x, rfl, hx, b2⟩
  have HB2 := hide (HB.out.trans (b2.mono HB.out.size))
  have HX2 := hide (HX.out.below b2)
  have HS2 := hide (HS.out.below b2)
  clear b2 l0 HX HB HS
  rcases hx with ⟨rfl, hn⟩ | ⟨rfl, hy⟩
  · have HN := hide hn
    clear hn
    go_wp2_with fail
    go_ret2
    exact .inl ⟨HN.out, rfl, HB2.out⟩
  · have HY := hide hy
    have hc : 0 ≤ c ∧ c < 64 := by have := hy.1; simp [isC] at this; exact this
    obtain ⟨cn, hcn⟩ : ∃ cn : Nat, c = (cn : Int) := ⟨c.toNat, by omega⟩
    have HCe := hide hcn
    have HCn : Hid (nB c = U.numB cn ∧ cn < 64) := ⟨by rw [hcn]; unfold nB; rw [Int.toNat_natCast], by omega⟩
    clear hy
    go_wp2_with fail
    refine (U.new_any _).mono ?_
    rintro e w3 ⟨rfl, rfl⟩
    have P3 := pw_new w2
    obtain ⟨gw, hgw⟩ : ∃ gw, w2.heap.size = gw := ⟨_, rfl⟩
    obtain ⟨w3, hw3⟩ : ∃ w3, w2.alloc (.cells #[.slice none 0 0, .bool false] 171) = w3 := ⟨_, rfl⟩
    rw [hw3, hgw] at P3
    have HP3 := hide P3
    have c3 := (HX2.out.below P3.wk.bel).ct
    rw [hcn] at c3
    rw [hgw, hw3]
    clear P3 hw3 hgw hcn
    go_wp2_with fail
    refine (U.wnum_any none 0 0 [] false cn _ HP3.out.wk.w (fun _ => rfl) (by have := HCn.out; omega) (by omega)).mono ?_
    rintro e w4 ⟨rfl, hp4⟩
    obtain ⟨bo, m, cc, P4⟩ := HP3.out.put hp4
    rw [List.nil_append] at P4
    have HP4 := hide P4
    have HM : Hid (m ≤ 10 ∧ (U.numB cn).length = m) := ⟨by have h1 := P4.wk.len; have h2 := U.numB_len 9 cn (by have := HCn.out; omega); omega, P4.wk.len⟩
    clear P4 hp4 c3
    go_wp2_with fail
    refine (U.done_ok bo m cc _ _ HP4.out.wk.w (by have := HM.out; omega)).mono ?_
    rintro e w5 ⟨bo5, cc5, rfl, hr5, hn5⟩
    have hb5 : Below w2.heap.size w2 w5 := HP4.out.wk.bel.trans (hn5.1.mono HP4.out.wk.bel.size)
    have HX5 := hide (HX2.out.below hb5)
    have HS5 := hide (HS2.out.below hb5)
    have HB5 := hide (HB2.out.trans (hb5.mono HB2.out.size))
    have HN5 : Hid (∀ k, U.blk bo5 = some k → w.heap.size ≤ k) := fun k e => by have h1 := hn5.2 k e; have h2 := HP4.out.wk.bel.size; have h3 := HB2.out.size; omega
    have HR5 := hide hr5
    have l5 := run_ldP HX5.out.past
    clear hb5 hr5 hn5
    go_wp2_with fail
    refine (putPast_any p _ HS5.out).mono ?_
    rintro e w6 h6
    rcases h6 with ⟨h1, -, -⟩ | ⟨h1, bo6, cc6, rfl, hr6, hn6⟩
    · exact absurd HY.out.2 h1
    · have HR6 := hide hr6
      have HN6 := hide hn6
      have HR5' := hide (HR5.out.below hn6.1)
      clear h1 hr6 hn6 l5
      have HPl := hide (pastB_len HY.out.2)
      obtain ⟨pm, hpm⟩ : ∃ pm, (pastB p.P).length = pm := ⟨_, rfl⟩
      rw [hpm] at HR6 HPl
      rw [hpm]
      have HPm := hide hpm
      clear hpm
      go_wp2_with (at_builtin; go_loud (refine U.BR.appB HR5'.out HR6.out.bs (by have h1 := HM.out; have h2 := HPl.out; omega) rfl (.tmp 31) (.tmp 32) rfl rfl rfl ?_); intro bo7 cap7 w7 hr7 ha7)
      have HF : Hid (PutT w w7 (.returned (.tuple #[.slice bo7 (m + pm) cap7, .int .i64 0])) c p.P) := by
        have hl : (tokB c p.P).length = m + pm := by unfold tokB; rw [List.length_append, HCn.out.1, HM.out.2, HPm.out]
        have h6 : Below w.heap.size w w6 := HB5.out.trans (HN6.out.1.mono HB5.out.size)
        refine .inr ⟨HY.out, bo7, cap7, by rw [hl], ?_, ⟨ha7.grown.os.trans h6.os, ha7.grown.tape.trans h6.tape, ha7.grown.output.trans h6.output, Nat.le_trans h6.size ha7.grown.size, fun k hk => (ha7.grown.block k (Nat.lt_of_lt_of_le hk h6.size) (fun e => by have := HN5.out k e.symm; omega)).trans (h6.block k hk)⟩, fun k e => ?_⟩
        · rw [hl]
          unfold tokB
          rw [HCn.out.1]
          exact hr7
        · rcases ha7.lies with y | ⟨j, y, hj⟩
          · exact HN5.out k (y ▸ e)
          · rw [y] at e
            have := Option.some.inj e
            have := h6.size
            omega
      clear hr7 ha7
      go_wp2_with fail
      go_ret2
      exact HF.out
end Go.Proofs.Ytnghfnhpjdafmaa
namespace Go.Proofs.Ytnghfnhpjdafmaa
open Go.RowKit
def letS : ByteArray := ⟨#[48, 49, 50, 51, 52, 53, 54, 55, 56, 57, 65, 66, 67, 68, 69, 70, 71, 72, 74, 75, 77, 78, 80, 81, 82, 83, 84, 86, 87, 88, 89, 90]⟩
theorem letS_size : letS.size = 32 := rfl
/-- the letter of a number below 32 -/
def lt32 (v : Nat) : Int := ((letS.data.getD v 0).toNat : Int)
theorem idx_let (v : Nat) (h : v < 32) (w : World) : (Instr.index 9 (.string letS) (.int .i64 (v : Int))).run Try.prog w = .ok (.int .u8 (lt32 v)) w := by
  have h1 : (v : Int) < 32 := by omega
  have h2 : v < letS.size := by rw [letS_size]; exact h
  generalize hL : letS = L at *
  go_simp
  subst hL
  unfold lt32
  rw [Array.getD_eq_getD_getElem?, Array.getElem?_eq_getElem (show v < letS.data.size from h2)]
  rfl
theorem fold_letS : (ByteArray.mk #[48, 49, 50, 51, 52, 53, 54, 55, 56, 57, 65, 66, 67, 68, 69, 70, 71, 72, 74, 75, 77, 78, 80, 81, 82, 83, 84, 86, 87, 88, 89, 90]) = letS := rfl
def idxL (i : Value) : Sem Value := Instr.index 9 (.string letS) i
theorem idxL_eq (i : Value) : Instr.index 9 (.string letS) i = idxL i := rfl
theorem run_idxL (v : Nat) (h : v < 32) (w : World) : (idxL (.int .i64 (v : Int))).run Try.prog w = .ok (.int .u8 (lt32 v)) w := idx_let v h w
theorem idxL_lit (i : Value) : Instr.index 9 (.string (ByteArray.mk #[48, 49, 50, 51, 52, 53, 54, 55, 56, 57, 65, 66, 67, 68, 69, 70, 71, 72, 74, 75, 77, 78, 80, 81, 82, 83, 84, 86, 87, 88, 89, 90])) i = idxL i := rfl
end Go.Proofs.Ytnghfnhpjdafmaa
