/- Rows of numbers; mail's Carts; mail's Body. -/
import Derived.Test.YtcpaaegbjcbnaaaNFm
import Derived.Deep.OwnRows
import Derived.Maps.AppendAt
namespace Go.Proofs.Ytcpaaegbjcbnaaa
open Go.RowKit
variable {w w' : World} {g : Nat}

/-- a row of numbers, nil or not -/
structure NSrc (w : World) (ao : Option Addr) (m c : Nat) (Z : List Int) : Prop where
  len : Z.length = m
  nil : ao = none → m = 0 ∧ c = 0
  cell : ∀ ad, ao = some ad → ∀ t, t < m → w.cell? (ad.add t) = some (.int .i64 (Z.getD t 0))
theorem NSrc.below {ao : Option Addr} {m c : Nat} {Z : List Int} (h : NSrc w ao m c Z) (hb : Below w.heap.size w w') : NSrc w' ao m c Z :=
  ⟨h.len, h.nil, fun ad ha t ht => (hb.cell (World.block_lt_of_cell? w _ (h.cell ad ha t ht))).trans (h.cell ad ha t ht)⟩
theorem NSrc.at {ao : Option Addr} {m c : Nat} {Z : List Int} (h : NSrc w ao m c Z) (k : Nat) (hk : k < m) : ∃ ad, ao = some ad ∧ w.cell? (ad.add k) = some (.int .i64 (Z.getD k 0)) := by
  cases ao with
  | none => have := h.nil rfl; omega
  | some ad => exact ⟨ad, rfl, h.cell ad rfl k hk⟩
theorem infoI : (Try.prog.info? 3).map (fun i => (i.zero, i.size, i.bytes)) = some (some (.int .i64 0), 1, 8) := by kernel_rfl
def mkI (a b : Value) : Sem Value := Instr.makeSlice 43 a b
theorem mkI_eq (a b : Value) : Instr.makeSlice 43 a b = mkI a b := rfl
/-- a row of numbers that the call owns -/
def DRow (w : World) (g q : Nat) (ds : List Int) : Prop := w.rowIs g 3 q (fun i => .int .i64 (ds.getD i 0))
theorem madeI (w : World) (q : Nat) (hq : q ≤ 8796093022207) : ∃ w' : World, (mkI (.int .i64 (q : Int)) (.int .i64 (q : Int))).run Try.prog w = .ok (.slice (some ⟨w.heap.size, 0, none⟩) q q) w' ∧ DRow w' w.heap.size q (List.replicate q 0) ∧ Below w.heap.size w w' ∧ w'.heap.size = w.heap.size + 1 := by
  have h := run_make_row' (P := Try.prog) 43 3 (.int .i64 0) 8 Try.underlying43 infoI rfl .i64 .i64 q (by omega) (by omega) w
  refine ⟨_, h, ?_, below_new w _, by simp⟩
  refine (World.rowIs_made w (.int .i64 0) q 3).congr (fun i hi => ?_)
  simp [List.getD, hi]
theorem DRow.of_block {q : Nat} {ds : List Int} (h : DRow w g q ds) (e : w'.heap[g]? = w.heap[g]?) : DRow w' g q ds := World.rowIs.of_block h e
theorem DRow.set {q : Nat} {ds : List Int} (h : DRow w g q ds) (hl : ds.length = q) (s : Nat) (hs : s < q) (v : Int) : DRow (w.setCell ⟨g, s, none⟩ (.int .i64 v)) g q (ds.set s v) := by
  refine (World.rowIs.set h s (.int .i64 v)).congr (fun i hi => ?_)
  by_cases e : i = s
  · subst e; simp [List.getD, hl, hs]
  · simp [List.getD, e, Ne.symm e]
theorem DRow.src {q : Nat} {ds : List Int} (h : DRow w g q ds) (hl : ds.length = q) : NSrc w (some ⟨g, 0, none⟩) q q ds := by
  refine ⟨hl, fun e => (by cases e), fun ad e t ht => ?_⟩
  obtain rfl := Option.some.inj e
  rw [Addr.add_lit, Nat.zero_add]
  exact World.rowIs.cell h ht
def cartsL (X : List Pt) : List Int := X.map (·.cart)
theorem cartsL_len (X : List Pt) : (cartsL X).length = X.length := by simp [cartsL]
attribute [local go_sem ↓] ldP_eq stP_eq mkI_eq
attribute [local go_sem] zero_PC
theorem set_take {Z : List Int} {k n : Nat} (hk : k < n) (hl : Z.length = n) : (Z.take k ++ List.replicate (n - k) 0).set k (Z.getD k 0) = Z.take (k + 1) ++ List.replicate (n - (k + 1)) 0 := by
  rw [List.take_succ_eq_append_getElem (by omega), List.set_append, if_neg (by simp; omega)]
  have e : k - (Z.take k).length = 0 := by simp; omega
  have hz : Z.getD k 0 = Z[k] := by simp [List.getD, show k < Z.length by omega]
  rw [e, show n - k = (n - (k + 1)) + 1 by omega, List.replicate_succ, List.set_cons_zero, List.append_assoc, List.singleton_append, hz]
set_option maxRecDepth 100000 in
theorem carts_any (a b c d e : Int) (po : Option Addr) (pn pc : Nat) (X : List Pt) (w : World) (S : PSrc w po pn pc X) : Calls Try.prog 21 #[MV ⟨a, b, c, d, e, po, pn, pc⟩] w fun r w' => ∃ ao cc, r = .returned (.slice ao pn cc) ∧ NSrc w' ao pn cc (cartsL X) ∧ Below w.heap.size w w' := by
  obtain ⟨w1, hw1⟩ : ∃ w1, w.alloc (.cells (MC ⟨a, b, c, d, e, po, pn, pc⟩) 24) = w1 := ⟨_, rfl⟩
  obtain ⟨g, hg⟩ : ∃ g, w.heap.size = g := ⟨_, rfl⟩
  have HX := hide (bx_new w ⟨a, b, c, d, e, po, pn, pc⟩ hw1 hg)
  have HS := hide (S.below HX.out.bel)
  have HN : Hid (pn ≤ 4398046511104 ∧ (cartsL X).length = pn) := ⟨S.big, by rw [cartsL_len]; exact S.len⟩
  have x5 := HX.out.box.c5
  simp only at x5
  obtain ⟨g2, hg2⟩ : ∃ g2, w1.heap.size = g2 := ⟨_, rfl⟩
  obtain ⟨w2, hmk, D2, b2, z2⟩ := madeI w1 pn (by have := S.big; omega)
  rw [hg2] at hmk D2
  have HD2 := hide D2
  have HB2 := hide b2
  have y5 := (HX.out.box.below b2).c5
  simp only at y5
  have HG2 : Hid (w1.heap.size = g2 ∧ w2.heap.size = w1.heap.size + 1) := ⟨hg2, z2⟩
  clear S D2 b2 z2
  go_enter Try.func21, Try.ntmps21
  go_wp2_with fail
  clear hw1 hg hg2 hmk x5 y5
  go_loopw [13] (fun i wr => ∃ k : Nat, k ≤ pn ∧ i = .int .i64 k ∧ Hid (DRow wr g2 pn ((cartsL X).take k ++ List.replicate (pn - k) 0) ∧ Below w1.heap.size w1 wr ∧ g2 < wr.heap.size)) (fun i _ => pn - (intOf i).toNat)
  case atStart =>
    refine ⟨0, Nat.zero_le _, rfl, ?_, HB2.out, ?_⟩
    · rw [List.take_zero, List.nil_append, Nat.sub_zero]; exact HD2.out
    · have := HG2.out; omega
  case round =>
    obtain ⟨k, hk, rfl, HR⟩ := hrel
    by_cases hlt : k < pn
    · have HK1 : Hid (wrap64 ((k : Int) + 1) = ((k + 1 : Nat) : Int)) := by show _ = _; have := HN.out; rw [w64 (by omega) (by omega)]; rfl
      have HLT := hide hlt
      obtain ⟨bb, oo, rfl, A0⟩ := (HS.out.below HR.out.2.1).at k hlt
      obtain ⟨p, hp⟩ : ∃ p, X.getD k pt0 = p := ⟨_, rfl⟩
      rw [hp] at A0
      have hld := run_ldP A0
      obtain ⟨gx, hgx⟩ : ∃ gx, wr.heap.size = gx := ⟨_, rfl⟩
      obtain ⟨wk, hst, X1, B1, Z1⟩ := madeP wr p gx hgx
      have d0 := X1.at.c0
      have Dk : DRow wk g2 pn ((cartsL X).take k ++ List.replicate (pn - k) 0) := HR.out.1.of_block (B1.block g2 HR.out.2.2)
      have ce := World.rowIs.cell Dk hlt
      have fe := World.rowIs.frozen Dk k
      have hz : (cartsL X).getD k 0 = p.cart := by rw [← hp]; simp [cartsL, List.getD, show k < X.length by have := HN.out; rw [cartsL_len] at this; omega]
      have HRn : Hid (DRow (wk.setCell ⟨g2, k, none⟩ (.int .i64 p.cart)) g2 pn ((cartsL X).take (k + 1) ++ List.replicate (pn - (k + 1)) 0) ∧ Below w1.heap.size w1 (wk.setCell ⟨g2, k, none⟩ (.int .i64 p.cart)) ∧ g2 < (wk.setCell ⟨g2, k, none⟩ (.int .i64 p.cart)).heap.size) := by
        refine ⟨?_, ?_, ?_⟩
        · have h1 := Dk.set (by simp; have := HN.out; omega) k hlt p.cart
          rw [← hz, set_take hlt HN.out.2, hz] at h1
          exact h1
        · have h2 := HR.out.2.1.trans (B1.mono HR.out.2.1.size)
          refine h2.trans ⟨rfl, rfl, rfl, by simp [World.setCell], fun j hj => ?_⟩
          exact Go.Deep.blk_setCell_other wk ⟨g2, k, none⟩ _ j (by have := HG2.out.1; show j ≠ g2; omega)
        · have := HR.out.2.2
          have := B1.size
          simp [World.setCell]
          omega
      clear A0 X1 B1 Z1 hp hz Dk HR
      go_wp2_with fail
      go_roundw
      case rel => exact ⟨k + 1, HLT.out, by rw [HK1.out], HRn⟩
      case measure => rw [HK1.out]; have := HLT.out; simp [intOf]; omega
    · have hkn : k = pn := by omega
      have HNS : Hid (NSrc wr (some ⟨g2, 0, none⟩) pn pn (cartsL X)) := by
        have h1 := HR.out.1
        rw [hkn, List.take_of_length_le (by have := HN.out; omega), Nat.sub_self, List.replicate_zero, List.append_nil] at h1
        exact h1.src HN.out.2
      have HBF : Hid (Below w.heap.size w wr) := HX.out.bel.trans (HR.out.2.1.mono HX.out.bel.size)
      go_wp2_with fail
      go_ret
      exact ⟨_, _, rfl, HNS.out, HBF.out⟩
/-- what both Bodies answer: of the first part with the cart -/
def BodyIs (w' : World) (pn : Nat) (X : List Pt) (Y : List (List Int)) (q : Int) (r : Ending) : Prop :=
  (∃ k bo cc, k < pn ∧ (X.getD k pt0).cart = q ∧ (∀ j, j < k → (X.getD j pt0).cart ≠ q) ∧ r = .returned (.tuple #[.slice bo (X.getD k pt0).vn cc, .bool true]) ∧ Src w' bo (X.getD k pt0).vn cc (Y.getD k [])) ∨
  ((∀ j, j < pn → (X.getD j pt0).cart ≠ q) ∧ r = .returned (.tuple #[.slice none 0 0, .bool false]))
theorem first_step {X : List Pt} {q : Int} {k : Nat} (h : ∀ j, j < k → (X.getD j pt0).cart ≠ q) (hk : (X.getD k pt0).cart ≠ q) : ∀ j, j < k + 1 → (X.getD j pt0).cart ≠ q := fun j hj => by
  by_cases e : j = k
  · subst e; exact hk
  · exact h j (by omega)
attribute [local go_sem ↓] ldM_eq stM_eq
set_option maxRecDepth 100000 in
theorem body_any (a b c d e : Int) (po : Option Addr) (pn pc : Nat) (X : List Pt) (Y : List (List Int)) (q : Int) (w : World) (S : PSrc w po pn pc X) (P : PS w pn X Y) (hv : ∀ k, k < pn → (X.getD k pt0).vn ≤ 140737488355328) : Calls Try.prog 19 #[MV ⟨a, b, c, d, e, po, pn, pc⟩, .int .i64 q] w fun r w' => BodyIs w' pn X Y q r ∧ Below w.heap.size w w' := by
  obtain ⟨w1, hw1⟩ : ∃ w1, w.alloc (.cells (MC ⟨a, b, c, d, e, po, pn, pc⟩) 24) = w1 := ⟨_, rfl⟩
  obtain ⟨g, hg⟩ : ∃ g, w.heap.size = g := ⟨_, rfl⟩
  have HX := hide (bx_new w ⟨a, b, c, d, e, po, pn, pc⟩ hw1 hg)
  have HS := hide (S.below HX.out.bel)
  have HP := hide (P.below HX.out.bel)
  have HN : Hid (pn ≤ 4398046511104) := S.big
  have x5 := HX.out.box.c5
  simp only at x5
  have HG := hide hg
  have HV := hide hv
  clear S P hv
  go_enter Try.func19, Try.ntmps19
  go_wp2_with fail
  clear hw1 hg x5
  go_loopw [11] (fun i wr => ∃ k : Nat, k ≤ pn ∧ i = .int .i64 k ∧ Hid (∀ j, j < k → (X.getD j pt0).cart ≠ q) ∧ Hid (Below w1.heap.size w1 wr)) (fun i _ => pn - (intOf i).toNat)
  case atStart => exact ⟨0, Nat.zero_le _, rfl, (fun j hj => by omega), Below.refl _ _⟩
  case round =>
    obtain ⟨k, hk, rfl, HF, HB⟩ := hrel
    by_cases hlt : k < pn
    · have HK1 : Hid (wrap64 ((k : Int) + 1) = ((k + 1 : Nat) : Int)) := by show _ = _; have := HN.out; rw [w64 (by omega) (by omega)]; rfl
      have HLT := hide hlt
      obtain ⟨bb, oo, rfl, A0⟩ := (HS.out.below HB.out).at k hlt
      have HBk := hide ((HP.out.below HB.out) k hlt)
      obtain ⟨p, hp⟩ : ∃ p, X.getD k pt0 = p := ⟨_, rfl⟩
      have hv0 := HV.out k hlt
      rw [hp] at A0 HBk hv0
      have HV0 := hide hv0
      have HPK := hide hp
      have hld := run_ldP A0
      obtain ⟨gx, hgx⟩ : ∃ gx, wr.heap.size = gx := ⟨_, rfl⟩
      obtain ⟨wk, hst, X1, B1, Z1⟩ := madeP wr p gx hgx
      have HB2 := hide (HB.out.trans (B1.mono HB.out.size))
      have HBk2 := hide (HBk.out.below B1)
      have d0 := X1.at.c0
      have d1 := X1.at.c1
      rw [Addr.add_lit] at d1
      simp only [Nat.zero_add] at d1
      obtain ⟨y, hy⟩ : ∃ y, p.cart = y := ⟨_, rfl⟩
      rw [hy] at d0
      have HY := hide hy
      clear A0 X1 B1 Z1 hp hy HB HBk hv0
      by_cases h1 : y = q
      · subst h1
        go_wp2_with fail
        refine (clone_any _ _ _ _ wk HBk2.out.bs HV0.out).mono ?_
        rintro r w5 ⟨bo, cc, rfl, B5, N5⟩
        have S5 := B5.srcO HBk2.out.2.2.2
        have b5 := N5.1
        have HFin : Hid (BodyIs w5 pn X Y y (.returned (.tuple #[.slice bo p.vn cc, .bool true]))) := by
          refine Or.inl ⟨k, bo, cc, HLT.out, by rw [HPK.out]; exact HY.out, HF.out, by rw [HPK.out], by rw [HPK.out]; exact S5⟩
        have HBF : Hid (Below w.heap.size w w5) := (HX.out.bel.trans (HB2.out.mono HX.out.bel.size)).trans (b5.mono (HX.out.bel.trans (HB2.out.mono HX.out.bel.size)).size)
        clear S5 b5 B5 N5
        go_wp2_with fail
        go_ret2
        exact ⟨HFin.out, HBF.out⟩
      · have HFn := hide (first_step HF.out (by rw [HPK.out, HY.out]; exact h1))
        go_wp2_with fail
        go_roundw
        case rel => exact ⟨k + 1, HLT.out, by rw [HK1.out], HFn, HB2⟩
        case measure => rw [HK1.out]; have := HLT.out; simp [intOf]; omega
    · have hkn : k = pn := by omega
      have HFin : Hid (BodyIs wr pn X Y q (.returned (.tuple #[.slice none 0 0, .bool false]))) := Or.inr ⟨fun j hj => HF.out j (by omega), rfl⟩
      have HBF : Hid (Below w.heap.size w wr) := HX.out.bel.trans (HB.out.mono HX.out.bel.size)
      go_wp2_with fail
      go_ret2
      exact ⟨HFin.out, HBF.out⟩
theorem rise_lt : ∀ (X : List Pt) (b : Int) (i j : Nat), rise b X = true → i < j → j < X.length → (X.getD i pt0).cart < (X.getD j pt0).cart
  | p :: X, b, 0, j + 1, h, _, hj => by
    unfold rise at h
    rw [Bool.and_eq_true, decide_eq_true_eq] at h
    have := rise_at X p.cart j h.2 (by simpa using hj)
    exact this.1
  | p :: X, b, i + 1, j + 1, h, hij, hj => by
    unfold rise at h
    rw [Bool.and_eq_true, decide_eq_true_eq] at h
    exact rise_lt X p.cart i j h.2 (by omega) (by simpa using hj)
  | [], _, _, _, _, _, hj => by simp at hj
end Go.Proofs.Ytcpaaegbjcbnaaa
