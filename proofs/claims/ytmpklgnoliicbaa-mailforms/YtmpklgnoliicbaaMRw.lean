/- Rows of numbers; mail's Carts, the reference's CartsOf; their comparison. -/
import Derived.Test.YtmpklgnoliicbaaMCk
import Derived.Deep.OwnRows
import Derived.Maps.AppendAt
namespace Go.Proofs.Ytmpklgnoliicbaa
open Go.RowKit
variable {w w' : World} {g : Nat}

def ics (L : List Int) : List Value := L.map (Value.int .i64)
theorem ics_append (L M : List Int) : ics (L ++ M) = ics L ++ ics M := by simp [ics]
theorem ics_length (L : List Int) : (ics L).length = L.length := by simp [ics]
theorem ics_one (L : List Int) : ∀ u ∈ ics L, u.oneCell' = true := by
  intro u hu
  obtain ⟨z, _, rfl⟩ := List.mem_map.1 hu
  rfl
theorem ics_at (L : List Int) (t : Nat) (ht : t < L.length) : (ics L)[t]? = some (.int .i64 (L.getD t 0)) := by
  simp [ics, ht, List.getD]
/-- a row of numbers, nil or not -/
structure NSrc (w : World) (ao : Option Addr) (m c : Nat) (Z : List Int) : Prop where
  len : Z.length = m
  nil : ao = none → m = 0 ∧ c = 0
  cell : ∀ ad, ao = some ad → ∀ t, t < m → w.cell? (ad.add t) = some (.int .i64 (Z.getD t 0))
theorem NSrc.below {ao : Option Addr} {m c : Nat} {Z : List Int} (h : NSrc w ao m c Z) (hb : Below w.heap.size w w') : NSrc w' ao m c Z :=
  ⟨h.len, h.nil, fun ad ha t ht => (hb.cell (World.block_lt_of_cell? w _ (h.cell ad ha t ht))).trans (h.cell ad ha t ht)⟩
theorem NSrc.of_own {B m c : Nat} {ao : Option Addr} {Z : List Int} (h : w.ownsRow B 3 1 (.slice ao m c) m (ics Z)) (hl : Z.length = m) : NSrc w ao m c Z := by
  rcases h.2 with ⟨h0, h00⟩ | ⟨q, cap2, cur, hv, r⟩
  · simp only [Value.slice.injEq] at h0
    obtain ⟨rfl, e0, rfl⟩ := h0
    exact ⟨hl, fun _ => ⟨e0, rfl⟩, (fun ad h => by cases h)⟩
  · simp only [Value.slice.injEq, true_and] at hv
    obtain ⟨rfl, rfl⟩ := hv
    refine ⟨hl, fun h => (by cases h), fun ad ha t ht => ?_⟩
    obtain rfl := Option.some.inj ha
    rw [Addr.add_lit, Nat.zero_add, h.cellAt t (by omega), ics_at Z t (by omega)]
theorem NSrc.at {ao : Option Addr} {m c : Nat} {Z : List Int} (h : NSrc w ao m c Z) (k : Nat) (hk : k < m) : ∃ ad, ao = some ad ∧ w.cell? (ad.add k) = some (.int .i64 (Z.getD k 0)) := by
  cases ao with
  | none => have := h.nil rfl; omega
  | some ad => exact ⟨ad, rfl, h.cell ad rfl k hk⟩
structure OwnI (B0 B : Nat) (w w' : World) (ao : Option Addr) (cap : Nat) (acc : List Int) : Prop where
  own : w'.ownsRow B 3 1 (.slice ao acc.length cap) acc.length (ics acc)
  below : Below B0 w w'
  hB : B ≤ w'.heap.size
  hB0 : B0 ≤ B
theorem OwnI.nil {B0 B : Nat} (hb : Below B0 w w') (hB : B ≤ w'.heap.size) (h0 : B0 ≤ B) : OwnI B0 B w w' none 0 [] :=
  ⟨World.ownsRow_nil _ _ _ _, hb, hB, h0⟩
theorem infoI : (Try.prog.info? 3).map (fun i => (i.zero, i.size, i.bytes)) = some (some (.int .i64 0), 1, 8) := by kernel_rfl
theorem OwnI.append1 {B0 B : Nat} {ao : Option Addr} {cap : Nat} {acc : List Int} (O : OwnI B0 B w w' ao cap acc) (x : Int) (hlen : acc.length ≤ 4398046511104)
    {ops : Array Oper} {rest : List Oper} {o : Oper} {a : Act} {Q : Exit → Act → World → Prop} (hgd : o.guard = none) (s y : Operand) (ho : o.op = .call { callee := .builtin .append, args := #[s, y], argTypes := #[30, 30] })
    (n : Nat) (hn : acc.length = n) (hs : a.eval s = .slice ao n cap) (hy : a.eval y = .slice (some ⟨w'.heap.size, 0, none⟩) 1 1)
    (hK : ∀ (ao2 : Option Addr) (cap2 : Nat) (w2 : World), OwnI B0 B w w2 ao2 cap2 (acc ++ [x]) → wpList Try.prog ops Q rest (a.put o.dst (.slice ao2 (n + 1) cap2)) w2) :
    wpList Try.prog ops Q (o :: rest) a (w'.alloc (.cells #[.int .i64 x] 3)) := by
  subst hn
  obtain ⟨i0, hi, hz0, hz1, hz2⟩ := info_parts infoI
  have hB := O.hB
  have hB0 := O.hB0
  refine wpList_append_own _ hgd s y 30 ho B 3 i0 (.int .i64 0) 1 8 Try.underlying30 hi hz0 hz1 hz2 rfl (by decide) _ acc.length (ics acc) hs (O.own.alloc _) ⟨w'.heap.size, 0, none⟩ 1 1 (ics [x]) hy rfl ?_ (ics_one [x]) (by unfold maxLen; omega) (by omega) (by simp; omega) ?_
  · intro j u hj
    rw [Addr.add_lit, Nat.zero_add, World.cell?_alloc_new]
    simpa [ics] using hj
  · intro v' w2 hown hgrow _
    rw [← ics_append] at hown
    have hrow : ∀ k, (Value.slice ao acc.length cap).ownBlock = some k → B ≤ k := fun k hk => (O.own.lt k hk).1
    have hsz := hgrow.size
    rw [World.size_alloc] at hsz
    rcases hown.2 with ⟨h0, h00⟩ | ⟨g, cap2, cur, hv, r⟩
    · omega
    · subst hv
      refine hK (some ⟨g, 0, none⟩) cap2 w2 ⟨?_, (O.below.alloc (by omega) _).grown hgrow (by simp; omega) (fun k hk => by have := hrow k hk; omega), by omega, hB0⟩
      rw [List.length_append]; exact hown
def mkI (a b : Value) : Sem Value := Instr.makeSlice 30 a b
theorem mkI_eq (a b : Value) : Instr.makeSlice 30 a b = mkI a b := rfl
/-- a row of numbers that the call owns -/
def DRow (w : World) (g q : Nat) (ds : List Int) : Prop := w.rowIs g 3 q (fun i => .int .i64 (ds.getD i 0))
theorem madeI (w : World) (q : Nat) (hq : q ≤ 8796093022207) : ∃ w' : World, (mkI (.int .i64 (q : Int)) (.int .i64 (q : Int))).run Try.prog w = .ok (.slice (some ⟨w.heap.size, 0, none⟩) q q) w' ∧ DRow w' w.heap.size q (List.replicate q 0) ∧ Below w.heap.size w w' ∧ w'.heap.size = w.heap.size + 1 := by
  have h := run_make_row' (P := Try.prog) 30 3 (.int .i64 0) 8 Try.underlying30 infoI rfl .i64 .i64 q (by omega) (by omega) w
  refine ⟨_, h, ?_, below_new w _, by simp⟩
  refine (World.rowIs_made w (.int .i64 0) q 3).congr (fun i hi => ?_)
  simp [List.getD, hi]
theorem DRow.of_block {q : Nat} {ds : List Int} (h : DRow w g q ds) (e : w'.heap[g]? = w.heap[g]?) : DRow w' g q ds := World.rowIs.of_block h e
theorem DRow.set {q : Nat} {ds : List Int} (h : DRow w g q ds) (hl : ds.length = q) (s : Nat) (hs : s < q) (v : Int) : DRow (w.setCell ⟨g, s, none⟩ (.int .i64 v)) g q (ds.set s v) := by
  refine (World.rowIs.set h s (.int .i64 v)).congr (fun i hi => ?_)
  by_cases e : i = s
  · subst e; simp [List.getD, hl, hs]
  · simp [List.getD, e, Ne.symm e]
theorem DRow.src {q : Nat} {ds : List Int} (h : DRow w g q ds) (hl : ds.length = q) : NSrc w (some ⟨g, 0, none⟩) q q ds := by
  refine ⟨hl, fun e => (by cases e), fun ad e t ht => ?_⟩
  obtain rfl := Option.some.inj e
  rw [Addr.add_lit, Nat.zero_add]
  exact World.rowIs.cell h ht
/-- two rows of the same numbers are equal -/
theorem eqInts_same (ao : Option Addr) (n c : Nat) (bo : Option Addr) (c' : Nat) (Z : List Int) (w : World) (hY : NSrc w ao n c Z) (hZ : NSrc w bo n c' Z) (hn : n ≤ 4398046511104) :
    Calls Try.prog 13 #[.slice ao n c, .slice bo n c'] w fun e w' => e = .returned (.bool true) ∧ Below w.heap.size w w' := by
  have HY := hide hY
  have HZ := hide hZ
  have HN := hide hn
  clear hY hZ hn
  go_enter Try.func13, Try.ntmps13
  go_wp2_with fail
  go_loopw [5] (fun i wr => ∃ k : Nat, k ≤ n ∧ i = .int .i64 k ∧ Hid (Below w.heap.size w wr)) (fun i _ => n - (intOf i).toNat)
  case atStart => exact ⟨0, Nat.zero_le _, rfl, Below.refl _ _⟩
  case round =>
    obtain ⟨k, hk, rfl, HB⟩ := hrel
    by_cases hlt : k < n
    · have HK1 : Hid (wrap64 ((k : Int) + 1) = ((k + 1 : Nat) : Int)) := by show _ = _; have := HN.out; rw [w64 (by omega) (by omega)]; rfl
      have HLT := hide hlt
      obtain ⟨ad, rfl, c1⟩ := (HY.out.below HB.out).at k hlt
      obtain ⟨bd, rfl, c2⟩ := (HZ.out.below HB.out).at k hlt
      obtain ⟨z, hz⟩ : ∃ z, Z.getD k 0 = z := ⟨_, rfl⟩
      rw [hz] at c1 c2
      clear hz
      go_wp2_with fail
      go_quiet (fail)
      have HB' := hide (HB.out.trans ((below_drewN wr nq).mono HB.out.size))
      clear HB
      go_wp2_with fail
      go_roundw
      case rel => exact ⟨k + 1, HLT.out, by rw [HK1.out], HB'⟩
      case measure => rw [HK1.out]; have := HLT.out; simp [intOf]; omega
    · go_wp2_with fail
      go_ret
      exact ⟨rfl, HB.out⟩
def cartsL (X : List Pt) : List Int := X.map (·.cart)
theorem cartsL_len (X : List Pt) : (cartsL X).length = X.length := by simp [cartsL]
theorem cartsL_take (X : List Pt) (k : Nat) (hk : k < X.length) : (cartsL X).take (k + 1) = (cartsL X).take k ++ [(X.getD k pt0).cart] := by
  rw [List.take_succ_eq_append_getElem (by rw [cartsL_len]; exact hk)]
  simp [cartsL, List.getD, hk]
set_option maxRecDepth 100000 in
theorem cartsOf_any (a b c d e : Int) (po : Option Addr) (pn pc : Nat) (X : List Pt) (w : World) (S : PSrc w po pn pc X) : Calls Try.prog 10 #[MV ⟨a, b, c, d, e, po, pn, pc⟩] w fun r w' => ∃ ao cc, r = .returned (.slice ao pn cc) ∧ NSrc w' ao pn cc (cartsL X) ∧ (∀ ad, ao = some ad → w.heap.size ≤ ad.block) ∧ Below w.heap.size w w' := by
  obtain ⟨w1, hw1⟩ : ∃ w1, w.alloc (.cells (MC ⟨a, b, c, d, e, po, pn, pc⟩) 24) = w1 := ⟨_, rfl⟩
  obtain ⟨g, hg⟩ : ∃ g, w.heap.size = g := ⟨_, rfl⟩
  have HX := hide (bx_new w ⟨a, b, c, d, e, po, pn, pc⟩ hw1 hg)
  have HS := hide (S.below HX.out.bel)
  have HN : Hid (pn ≤ 4398046511104 ∧ X.length = pn) := ⟨S.big, S.len⟩
  have HO : Hid (OwnI w1.heap.size w1.heap.size w1 w1 none 0 []) := OwnI.nil (Below.refl _ _) (Nat.le_refl _) (Nat.le_refl _)
  have HG := hide hg
  clear S
  go_enter Try.func10, Try.ntmps10
  go_wp2_with fail
  clear hw1 hg
  go_loopw [3, 4] (fun l i wr => ∃ k : Nat, k ≤ pn ∧ i = .int .i64 k ∧ ∃ ao cc, l = .slice ao k cc ∧ Hid (OwnI w1.heap.size w1.heap.size w1 wr ao cc ((cartsL X).take k))) (fun _ i _ => pn - (intOf i).toNat)
  case atStart => exact ⟨0, Nat.zero_le _, rfl, none, 0, rfl, HO⟩
  case round =>
    clear HO
    obtain ⟨k, hk, rfl, ao, cc, rfl, HO⟩ := hrel
    have y5 := (HX.out.box.below HO.out.below).c5
    simp only at y5
    by_cases hlt : k < pn
    · have HK1 : Hid (wrap64 ((k : Int) + 1) = ((k + 1 : Nat) : Int)) := by show _ = _; have := HN.out; rw [w64 (by omega) (by omega)]; rfl
      have HLT := hide hlt
      obtain ⟨bb, oo, rfl, A0⟩ := (HS.out.below HO.out.below).at k hlt
      have r0 := A0.c0
      have HE := hide (cartsL_take X k (by have := HN.out; omega))
      have HL : Hid (((cartsL X).take k).length = k) := by show _ = _; rw [List.length_take, cartsL_len]; have := HN.out; omega
      obtain ⟨z, hz⟩ : ∃ z, (X.getD k pt0).cart = z := ⟨_, rfl⟩
      rw [hz] at r0 HE
      clear A0 hz
      go_wp2_with (at_builtin; refine HO.out.append1 z (by have := HL.out; have := HN.out; have := HLT.out; omega) rfl (.tmp 12) (.tmp 19) rfl k HL.out rfl rfl ?_; intro a5 c5 w5 O5; have HO5 := hide O5; clear O5)
      go_roundw
      case rel => exact ⟨k + 1, HLT.out, by rw [HK1.out], _, _, rfl, by rw [HE.out]; exact HO5⟩
      case measure => rw [HK1.out]; have := HLT.out; simp [intOf]; omega
    · have hkn : k = pn := by omega
      have HT : Hid ((cartsL X).take k = cartsL X) := by show _ = _; rw [List.take_of_length_le (by rw [cartsL_len]; have := HN.out; omega)]
      rw [HT.out] at HO
      have HNS : Hid (NSrc wr ao pn cc (cartsL X)) := by
        have hl : (cartsL X).length = pn := by rw [cartsL_len]; exact HN.out.2
        refine NSrc.of_own (B := w1.heap.size) ?_ hl
        have := HO.out.own
        rwa [hl] at this
      have HB2 : Hid (Below w.heap.size w wr) := HX.out.bel.trans (HO.out.below.mono HX.out.bel.size)
      have HFR : Hid (∀ ad, ao = some ad → w.heap.size ≤ ad.block) := fun ad ha => by
        rcases HO.out.own.2 with ⟨h0, h00⟩ | ⟨q, cap2, cur, hv, hq, -⟩
        · simp only [Value.slice.injEq] at h0
          rw [h0.1] at ha; cases ha
        · simp only [Value.slice.injEq] at hv
          rw [hv.1] at ha
          obtain rfl := Option.some.inj ha
          exact Nat.le_trans HX.out.bel.size hq
      rw [hkn]
      go_wp2_with fail
      go_ret
      exact ⟨ao, cc, rfl, HNS.out, HFR.out, HB2.out⟩
attribute [local go_sem ↓] ldP_eq stP_eq mkI_eq
attribute [local go_sem] zero_PC
theorem set_take {Z : List Int} {k n : Nat} (hk : k < n) (hl : Z.length = n) : (Z.take k ++ List.replicate (n - k) 0).set k (Z.getD k 0) = Z.take (k + 1) ++ List.replicate (n - (k + 1)) 0 := by
  rw [List.take_succ_eq_append_getElem (by omega), List.set_append, if_neg (by simp; omega)]
  have e : k - (Z.take k).length = 0 := by simp; omega
  have hz : Z.getD k 0 = Z[k] := by simp [List.getD, show k < Z.length by omega]
  rw [e, show n - k = (n - (k + 1)) + 1 by omega, List.replicate_succ, List.set_cons_zero, List.append_assoc, List.singleton_append, hz]
set_option maxRecDepth 100000 in
theorem carts_any (a b c d e : Int) (po : Option Addr) (pn pc : Nat) (X : List Pt) (w : World) (S : PSrc w po pn pc X) : Calls Try.prog 14 #[MV ⟨a, b, c, d, e, po, pn, pc⟩] w fun r w' => ∃ ao cc, r = .returned (.slice ao pn cc) ∧ NSrc w' ao pn cc (cartsL X) ∧ Below w.heap.size w w' := by
  obtain ⟨w1, hw1⟩ : ∃ w1, w.alloc (.cells (MC ⟨a, b, c, d, e, po, pn, pc⟩) 24) = w1 := ⟨_, rfl⟩
  obtain ⟨g, hg⟩ : ∃ g, w.heap.size = g := ⟨_, rfl⟩
  have HX := hide (bx_new w ⟨a, b, c, d, e, po, pn, pc⟩ hw1 hg)
  have HS := hide (S.below HX.out.bel)
  have HN : Hid (pn ≤ 4398046511104 ∧ (cartsL X).length = pn) := ⟨S.big, by rw [cartsL_len]; exact S.len⟩
  have x5 := HX.out.box.c5
  simp only at x5
  obtain ⟨g2, hg2⟩ : ∃ g2, w1.heap.size = g2 := ⟨_, rfl⟩
  obtain ⟨w2, hmk, D2, b2, z2⟩ := madeI w1 pn (by have := S.big; omega)
  rw [hg2] at hmk D2
  have HD2 := hide D2
  have HB2 := hide b2
  have y5 := (HX.out.box.below b2).c5
  simp only at y5
  have HG2 : Hid (w1.heap.size = g2 ∧ w2.heap.size = w1.heap.size + 1) := ⟨hg2, z2⟩
  clear S D2 b2 z2
  go_enter Try.func14, Try.ntmps14
  go_wp2_with fail
  clear hw1 hg hg2 hmk x5 y5
  go_loopw [13] (fun i wr => ∃ k : Nat, k ≤ pn ∧ i = .int .i64 k ∧ Hid (DRow wr g2 pn ((cartsL X).take k ++ List.replicate (pn - k) 0) ∧ Below w1.heap.size w1 wr ∧ g2 < wr.heap.size)) (fun i _ => pn - (intOf i).toNat)
  case atStart =>
    refine ⟨0, Nat.zero_le _, rfl, ?_, HB2.out, ?_⟩
    · rw [List.take_zero, List.nil_append, Nat.sub_zero]; exact HD2.out
    · have := HG2.out; omega
  case round =>
    obtain ⟨k, hk, rfl, HR⟩ := hrel
    by_cases hlt : k < pn
    · have HK1 : Hid (wrap64 ((k : Int) + 1) = ((k + 1 : Nat) : Int)) := by show _ = _; have := HN.out; rw [w64 (by omega) (by omega)]; rfl
      have HLT := hide hlt
      obtain ⟨bb, oo, rfl, A0⟩ := (HS.out.below HR.out.2.1).at k hlt
      obtain ⟨p, hp⟩ : ∃ p, X.getD k pt0 = p := ⟨_, rfl⟩
      rw [hp] at A0
      have hld := run_ldP A0
      obtain ⟨gx, hgx⟩ : ∃ gx, wr.heap.size = gx := ⟨_, rfl⟩
      obtain ⟨wk, hst, X1, B1, Z1⟩ := madeP wr p gx hgx
      have d0 := X1.at.c0
      have Dk : DRow wk g2 pn ((cartsL X).take k ++ List.replicate (pn - k) 0) := HR.out.1.of_block (B1.block g2 HR.out.2.2)
      have ce := World.rowIs.cell Dk hlt
      have fe := World.rowIs.frozen Dk k
      have hz : (cartsL X).getD k 0 = p.cart := by rw [← hp]; simp [cartsL, List.getD, show k < X.length by have := HN.out; rw [cartsL_len] at this; omega]
      have HRn : Hid (DRow (wk.setCell ⟨g2, k, none⟩ (.int .i64 p.cart)) g2 pn ((cartsL X).take (k + 1) ++ List.replicate (pn - (k + 1)) 0) ∧ Below w1.heap.size w1 (wk.setCell ⟨g2, k, none⟩ (.int .i64 p.cart)) ∧ g2 < (wk.setCell ⟨g2, k, none⟩ (.int .i64 p.cart)).heap.size) := by
        refine ⟨?_, ?_, ?_⟩
        · have h1 := Dk.set (by simp; have := HN.out; omega) k hlt p.cart
          rw [← hz, set_take hlt HN.out.2, hz] at h1
          exact h1
        · have h2 := HR.out.2.1.trans (B1.mono HR.out.2.1.size)
          refine h2.trans ⟨rfl, rfl, rfl, by simp [World.setCell], fun j hj => ?_⟩
          exact Go.Deep.blk_setCell_other wk ⟨g2, k, none⟩ _ j (by have := HG2.out.1; show j ≠ g2; omega)
        · have := HR.out.2.2
          have := B1.size
          simp [World.setCell]
          omega
      clear A0 X1 B1 Z1 hp hz Dk HR
      go_wp2_with fail
      go_roundw
      case rel => exact ⟨k + 1, HLT.out, by rw [HK1.out], HRn⟩
      case measure => rw [HK1.out]; have := HLT.out; simp [intOf]; omega
    · have hkn : k = pn := by omega
      have HNS : Hid (NSrc wr (some ⟨g2, 0, none⟩) pn pn (cartsL X)) := by
        have h1 := HR.out.1
        rw [hkn, List.take_of_length_le (by have := HN.out; omega), Nat.sub_self, List.replicate_zero, List.append_nil] at h1
        exact h1.src HN.out.2
      have HBF : Hid (Below w.heap.size w wr) := HX.out.bel.trans (HR.out.2.1.mono HX.out.bel.size)
      go_wp2_with fail
      go_ret
      exact ⟨_, _, rfl, HNS.out, HBF.out⟩
end Go.Proofs.Ytmpklgnoliicbaa
