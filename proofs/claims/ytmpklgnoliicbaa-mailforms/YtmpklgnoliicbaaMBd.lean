/- Rows of bytes; bytes.Clone; both Bodies; EqualBytes; the reference's Acks. -/
import Derived.Test.YtmpklgnoliicbaaMRw
import Derived.Test.YtmpklgnoliicbaaMAk
import Derived.Laws.AppendOwnNone
import Derived.Lib.SliceRun
namespace Go.Proofs.Ytmpklgnoliicbaa
open Go.RowKit
variable {w w' : World} {g : Nat}

def bcs (L : List Int) : List Value := L.map (Value.int .u8)
theorem bcs_length (L : List Int) : (bcs L).length = L.length := by simp [bcs]
theorem bcs_one (L : List Int) : ∀ u ∈ bcs L, u.oneCell' = true := by
  intro u hu
  obtain ⟨z, _, rfl⟩ := List.mem_map.1 hu
  rfl
theorem bcs_at (L : List Int) (t : Nat) (ht : t < L.length) : (bcs L)[t]? = some (.int .u8 (L.getD t 0)) := by
  simp [bcs, ht, List.getD]
/-- a row of bytes, nil or not -/
structure BSrc (w : World) (ao : Option Addr) (m c : Nat) (Z : List Int) : Prop where
  len : Z.length = m
  nil : ao = none → m = 0 ∧ c = 0
  cell : ∀ ad, ao = some ad → ∀ t, t < m → w.cell? (ad.add t) = some (.int .u8 (Z.getD t 0))
  big : m ≤ 140737488355328
theorem BSrc.below {ao : Option Addr} {m c : Nat} {Z : List Int} (h : BSrc w ao m c Z) (hb : Below w.heap.size w w') : BSrc w' ao m c Z :=
  ⟨h.len, h.nil, fun ad ha t ht => (hb.cell (World.block_lt_of_cell? w _ (h.cell ad ha t ht))).trans (h.cell ad ha t ht), h.big⟩
theorem BSrc.empty (w : World) : BSrc w none 0 0 [] := ⟨rfl, fun _ => ⟨rfl, rfl⟩, (fun ad h => by cases h), by omega⟩
theorem BSrc.at {ao : Option Addr} {m c : Nat} {Z : List Int} (h : BSrc w ao m c Z) (k : Nat) (hk : k < m) : ∃ ad, ao = some ad ∧ w.cell? (ad.add k) = some (.int .u8 (Z.getD k 0)) := by
  cases ao with
  | none => have := h.nil rfl; omega
  | some ad => exact ⟨ad, rfl, h.cell ad rfl k hk⟩
theorem infoB : (Try.prog.info? 5).map (fun i => (i.zero, i.size, i.bytes)) = some (some (.int .u8 0), 1, 1) := by kernel_rfl
theorem ownB_lit (w : World) : (w.alloc (.cells #[] 5)).ownsRow w.heap.size 5 1 (.slice (some ⟨w.heap.size, 0, none⟩) 0 0) 0 [] :=
  ⟨by simp, .inr ⟨w.heap.size, 0, _, rfl, Nat.le_refl _, heap_alloc_new w _, Nat.le_refl _, by unfold maxLen; omega, by simp, by simp⟩⟩
/-- append([]byte{}, b...), as an operation -/
theorem appB (w : World) (bo : Option Addr) (n c : Nat) (Z : List Int) (S : BSrc (w.alloc (.cells #[] 5)) bo n c Z)
    {ops : Array Oper} {rest : List Oper} {o : Oper} {a : Act} {Q : Exit → Act → World → Prop} (hgd : o.guard = none) (s y : Operand) (ho : o.op = .call { callee := .builtin .append, args := #[s, y], argTypes := #[32, 32] })
    (hs : a.eval s = .slice (some ⟨w.heap.size, 0, none⟩) 0 0) (hy : a.eval y = .slice bo n c)
    (hK : ∀ (ao2 : Option Addr) (cap2 : Nat) (w2 : World), BSrc w2 ao2 n cap2 Z → Below w.heap.size w w2 → wpList Try.prog ops Q rest (a.put o.dst (.slice ao2 n cap2)) w2) :
    wpList Try.prog ops Q (o :: rest) a (w.alloc (.cells #[] 5)) := by
  obtain ⟨i0, hi, hz0, hz1, hz2⟩ := info_parts infoB
  cases bo with
  | none =>
    obtain ⟨rfl, rfl⟩ := S.nil rfl
    have e := List.eq_nil_of_length_eq_zero S.len
    subst e
    refine wpList_append_own_none hgd s y 32 ho w.heap.size 5 i0 1 Try.underlying32 hi _ 0 [] hs (ownB_lit w) hy ?_
    exact hK _ _ _ ⟨rfl, fun h => (by cases h), fun ad h t ht => (by omega), by omega⟩ (below_new _ _)
  | some ad =>
    refine wpList_append_own _ hgd s y 32 ho w.heap.size 5 i0 (.int .u8 0) 1 1 Try.underlying32 hi hz0 hz1 hz2 rfl (by decide) _ 0 [] hs (ownB_lit w) ad n c (bcs Z) hy (by rw [bcs_length, S.len, Nat.mul_one]) (fun j u hj => ?_) (bcs_one Z) (by have := S.big; unfold maxLen; omega) (by have := S.big; omega) (by simp) ?_
    · have hl : j < Z.length := by rw [← bcs_length]; exact (List.getElem?_eq_some_iff.1 hj).1
      rw [bcs_at Z j hl] at hj
      rw [S.cell ad rfl j (by rw [← S.len]; exact hl)]
      exact hj
    · intro v' w2 hown hgrow _
      have hsz := hgrow.size
      rw [World.size_alloc] at hsz
      have hbel : Below w.heap.size w w2 := (below_new w _).grown hgrow (by simp) (fun k hk => by
        have : w.heap.size = k := Option.some.inj hk
        omega)
      rw [List.nil_append] at hown
      rcases hown.2 with ⟨h0, h00⟩ | ⟨q, cap2, cur, hv, hbg, r⟩
      · subst h0
        have e0 : n = 0 := by omega
        subst e0
        have := hK none 0 w2 ⟨S.len, fun _ => ⟨rfl, rfl⟩, (fun ad h => by cases h), by omega⟩ hbel
        exact this
      · rw [Nat.zero_add] at hv hown
        subst hv
        refine hK (some ⟨q, 0, none⟩) cap2 w2 ⟨S.len, fun h => (by cases h), fun ad2 h t ht => ?_, S.big⟩ hbel
        obtain rfl := Option.some.inj h
        rw [Addr.add_lit, Nat.zero_add, hown.cellAt t (by omega), bcs_at Z t (by rw [S.len]; exact ht)]
theorem cloneB_any (ao : Option Addr) (n c : Nat) (Z : List Int) (w : World) (S : BSrc w ao n c Z) : Calls Try.prog 20 #[.slice ao n c] w fun r w' => ∃ bo cc, r = .returned (.slice bo n cc) ∧ BSrc w' bo n cc Z ∧ Below w.heap.size w w' := by
  have q32 : ∀ (w : World) (a : Option Addr) (n c n' c' : Nat), (binOp .eql 32 (.slice a n c) (.slice none n' c')).run Try.prog w = .ok (.bool a.isNone) w := fun w a n c n' c' => Lib.run_eql_slice_nil w _ _ a n c n' c' Try.underlying32
  cases ao with
  | none =>
    obtain ⟨rfl, rfl⟩ := S.nil rfl
    have e := List.eq_nil_of_length_eq_zero S.len
    subst e
    go_enter Try.func20, Try.ntmps20
    go_wp2_with fail
    go_ret
    exact ⟨_, _, rfl, BSrc.empty _, Below.refl _ _⟩
  | some ad =>
    have HS := hide (S.below (below_new w (.cells #[] 5)))
    clear S
    go_enter Try.func20, Try.ntmps20
    go_wp2_with (at_builtin; refine appB w (some ad) n c Z HS.out rfl (.tmp 5) (.tmp 6) rfl rfl rfl ?_; intro a5 c5 w5 S5 b5; have HS5 := hide S5; have HB5 := hide b5; clear S5 b5)
    go_ret
    exact ⟨_, _, rfl, HS5.out, HB5.out⟩
/-- two rows of the same bytes are equal -/
theorem eqBytes_same (ao : Option Addr) (n c : Nat) (bo : Option Addr) (c' : Nat) (Z : List Int) (w : World) (hY : BSrc w ao n c Z) (hZ : BSrc w bo n c' Z) :
    Calls Try.prog 16 #[.slice ao n c, .slice bo n c'] w fun e w' => e = .returned (.bool true) ∧ Below w.heap.size w w' := by
  have HY := hide hY
  have HZ := hide hZ
  have HN := hide hY.big
  clear hY hZ
  go_enter Try.func16, Try.ntmps16
  go_wp2_with fail
  go_loopw [5] (fun i wr => ∃ k : Nat, k ≤ n ∧ i = .int .i64 k ∧ Hid (Below w.heap.size w wr)) (fun i _ => n - (intOf i).toNat)
  case atStart => exact ⟨0, Nat.zero_le _, rfl, Below.refl _ _⟩
  case round =>
    obtain ⟨k, hk, rfl, HB⟩ := hrel
    by_cases hlt : k < n
    · have HK1 : Hid (wrap64 ((k : Int) + 1) = ((k + 1 : Nat) : Int)) := by show _ = _; have := HN.out; rw [w64 (by omega) (by omega)]; rfl
      have HLT := hide hlt
      obtain ⟨ad, rfl, c1⟩ := (HY.out.below HB.out).at k hlt
      obtain ⟨bd, rfl, c2⟩ := (HZ.out.below HB.out).at k hlt
      obtain ⟨z, hz⟩ : ∃ z, Z.getD k 0 = z := ⟨_, rfl⟩
      rw [hz] at c1 c2
      clear hz
      go_wp2_with fail
      go_quiet (fail)
      have HB' := hide (HB.out.trans ((below_drewN wr nq).mono HB.out.size))
      clear HB
      go_wp2_with fail
      go_roundw
      case rel => exact ⟨k + 1, HLT.out, by rw [HK1.out], HB'⟩
      case measure => rw [HK1.out]; have := HLT.out; simp [intOf]; omega
    · go_wp2_with fail
      go_ret
      exact ⟨rfl, HB.out⟩
/-- each part's bytes -/
def PB (w : World) (pn : Nat) (X : List Pt) (Y : List (List Int)) : Prop := ∀ k, k < pn → BSrc w (X.getD k pt0).vo (X.getD k pt0).vn (X.getD k pt0).vc (Y.getD k [])
theorem PB.below {pn : Nat} {X : List Pt} {Y : List (List Int)} (h : PB w pn X Y) (hb : Below w.heap.size w w') : PB w' pn X Y := fun k hk => (h k hk).below hb
/-- what both Bodies answer: of the first part with the cart -/
def BodyIs (w' : World) (pn : Nat) (X : List Pt) (Y : List (List Int)) (q : Int) (r : Ending) : Prop :=
  (∃ k bo cc, k < pn ∧ (X.getD k pt0).cart = q ∧ (∀ j, j < k → (X.getD j pt0).cart ≠ q) ∧ r = .returned (.tuple #[.slice bo (X.getD k pt0).vn cc, .bool true]) ∧ BSrc w' bo (X.getD k pt0).vn cc (Y.getD k [])) ∨
  ((∀ j, j < pn → (X.getD j pt0).cart ≠ q) ∧ r = .returned (.tuple #[.slice none 0 0, .bool false]))
theorem first_step {X : List Pt} {q : Int} {k : Nat} (h : ∀ j, j < k → (X.getD j pt0).cart ≠ q) (hk : (X.getD k pt0).cart ≠ q) : ∀ j, j < k + 1 → (X.getD j pt0).cart ≠ q := fun j hj => by
  by_cases e : j = k
  · subst e; exact hk
  · exact h j (by omega)
attribute [local go_sem ↓] ldP_eq stP_eq ldM_eq stM_eq
attribute [local go_sem] zero_PC
set_option maxRecDepth 100000 in
theorem body_any (a b c d e : Int) (po : Option Addr) (pn pc : Nat) (X : List Pt) (Y : List (List Int)) (q : Int) (w : World) (S : PSrc w po pn pc X) (P : PB w pn X Y) : Calls Try.prog 15 #[MV ⟨a, b, c, d, e, po, pn, pc⟩, .int .i64 q] w fun r w' => BodyIs w' pn X Y q r ∧ Below w.heap.size w w' := by
  obtain ⟨w1, hw1⟩ : ∃ w1, w.alloc (.cells (MC ⟨a, b, c, d, e, po, pn, pc⟩) 24) = w1 := ⟨_, rfl⟩
  obtain ⟨g, hg⟩ : ∃ g, w.heap.size = g := ⟨_, rfl⟩
  have HX := hide (bx_new w ⟨a, b, c, d, e, po, pn, pc⟩ hw1 hg)
  have HS := hide (S.below HX.out.bel)
  have HP := hide (P.below HX.out.bel)
  have HN : Hid (pn ≤ 4398046511104) := S.big
  have x5 := HX.out.box.c5
  simp only at x5
  have HG := hide hg
  clear S P
  go_enter Try.func15, Try.ntmps15
  go_wp2_with fail
  clear hw1 hg x5
  go_loopw [11] (fun i wr => ∃ k : Nat, k ≤ pn ∧ i = .int .i64 k ∧ Hid (∀ j, j < k → (X.getD j pt0).cart ≠ q) ∧ Hid (Below w1.heap.size w1 wr)) (fun i _ => pn - (intOf i).toNat)
  case atStart => exact ⟨0, Nat.zero_le _, rfl, (fun j hj => by omega), Below.refl _ _⟩
  case round =>
    obtain ⟨k, hk, rfl, HF, HB⟩ := hrel
    by_cases hlt : k < pn
    · have HK1 : Hid (wrap64 ((k : Int) + 1) = ((k + 1 : Nat) : Int)) := by show _ = _; have := HN.out; rw [w64 (by omega) (by omega)]; rfl
      have HLT := hide hlt
      obtain ⟨bb, oo, rfl, A0⟩ := (HS.out.below HB.out).at k hlt
      have HBk := hide ((HP.out.below HB.out) k hlt)
      obtain ⟨p, hp⟩ : ∃ p, X.getD k pt0 = p := ⟨_, rfl⟩
      rw [hp] at A0 HBk
      have HPK := hide hp
      have hld := run_ldP A0
      obtain ⟨gx, hgx⟩ : ∃ gx, wr.heap.size = gx := ⟨_, rfl⟩
      obtain ⟨wk, hst, X1, B1, Z1⟩ := madeP wr p gx hgx
      have HB2 := hide (HB.out.trans (B1.mono HB.out.size))
      have HBk2 := hide (HBk.out.below B1)
      have d0 := X1.at.c0
      have d1 := X1.at.c1
      rw [Addr.add_lit] at d1
      simp only [Nat.zero_add] at d1
      obtain ⟨y, hy⟩ : ∃ y, p.cart = y := ⟨_, rfl⟩
      rw [hy] at d0
      have HY := hide hy
      clear A0 X1 B1 Z1 hp hy HB HBk
      by_cases h1 : y = q
      · subst h1
        go_wp2_with fail
        refine (cloneB_any _ _ _ _ wk HBk2.out).mono ?_
        rintro r w5 ⟨bo, cc, rfl, S5, b5⟩
        have HFin : Hid (BodyIs w5 pn X Y y (.returned (.tuple #[.slice bo p.vn cc, .bool true]))) := by
          refine Or.inl ⟨k, bo, cc, HLT.out, by rw [HPK.out]; exact HY.out, HF.out, by rw [HPK.out], by rw [HPK.out]; exact S5⟩
        have HBF : Hid (Below w.heap.size w w5) := (HX.out.bel.trans (HB2.out.mono HX.out.bel.size)).trans (b5.mono (HX.out.bel.trans (HB2.out.mono HX.out.bel.size)).size)
        clear S5 b5
        go_wp2_with fail
        go_ret2
        exact ⟨HFin.out, HBF.out⟩
      · have HFn := hide (first_step HF.out (by rw [HPK.out, HY.out]; exact h1))
        go_wp2_with fail
        go_roundw
        case rel => exact ⟨k + 1, HLT.out, by rw [HK1.out], HFn, HB2⟩
        case measure => rw [HK1.out]; have := HLT.out; simp [intOf]; omega
    · have hkn : k = pn := by omega
      have HFin : Hid (BodyIs wr pn X Y q (.returned (.tuple #[.slice none 0 0, .bool false]))) := Or.inr ⟨fun j hj => HF.out j (by omega), rfl⟩
      have HBF : Hid (Below w.heap.size w wr) := HX.out.bel.trans (HB.out.mono HX.out.bel.size)
      go_wp2_with fail
      go_ret2
      exact ⟨HFin.out, HBF.out⟩
set_option maxRecDepth 100000 in
theorem rbody_any (a b c d e : Int) (po : Option Addr) (pn pc : Nat) (X : List Pt) (Y : List (List Int)) (q : Int) (w : World) (S : PSrc w po pn pc X) (P : PB w pn X Y) : Calls Try.prog 11 #[MV ⟨a, b, c, d, e, po, pn, pc⟩, .int .i64 q] w fun r w' => BodyIs w' pn X Y q r ∧ Below w.heap.size w w' := by
  obtain ⟨w1, hw1⟩ : ∃ w1, w.alloc (.cells (MC ⟨a, b, c, d, e, po, pn, pc⟩) 24) = w1 := ⟨_, rfl⟩
  obtain ⟨g, hg⟩ : ∃ g, w.heap.size = g := ⟨_, rfl⟩
  have HX := hide (bx_new w ⟨a, b, c, d, e, po, pn, pc⟩ hw1 hg)
  have HS := hide (S.below HX.out.bel)
  have HP := hide (P.below HX.out.bel)
  have HN : Hid (pn ≤ 4398046511104) := S.big
  have x5 := HX.out.box.c5
  simp only at x5
  have HG := hide hg
  clear S P
  go_enter Try.func11, Try.ntmps11
  go_wp2_with fail
  clear hw1 hg
  go_loopw [6] (fun i wr => ∃ k : Nat, k ≤ pn ∧ i = .int .i64 k ∧ Hid (∀ j, j < k → (X.getD j pt0).cart ≠ q) ∧ wr = w1) (fun i _ => pn - (intOf i).toNat)
  case atStart => exact ⟨0, Nat.zero_le _, rfl, (fun j hj => by omega), rfl⟩
  case round =>
    obtain ⟨k, hk, rfl, HF, rfl⟩ := hrel
    by_cases hlt : k < pn
    · have HK1 : Hid (wrap64 ((k : Int) + 1) = ((k + 1 : Nat) : Int)) := by show _ = _; have := HN.out; rw [w64 (by omega) (by omega)]; rfl
      have HLT := hide hlt
      obtain ⟨bb, oo, rfl, A0⟩ := HS.out.at k hlt
      have HBk := hide (HP.out k hlt)
      obtain ⟨p, hp⟩ : ∃ p, X.getD k pt0 = p := ⟨_, rfl⟩
      rw [hp] at A0 HBk
      have HPK := hide hp
      have d0 := A0.c0
      obtain ⟨y, hy⟩ : ∃ y, p.cart = y := ⟨_, rfl⟩
      rw [hy] at d0
      have HY := hide hy
      have hbn := below_new wr (.cells #[] 5)
      have e5 : (wr.alloc (.cells #[] 5)).cell? ⟨g, 5, none⟩ = some (.slice (some ⟨bb, oo, none⟩) pn pc) := (HX.out.box.below hbn).c5
      have e1 := (A0.on hbn).c1
      rw [Addr.add_lit] at e1
      have HBl := hide (HBk.out.below hbn)
      clear A0 hp hy hbn HBk
      by_cases h1 : y = q
      · subst h1
        go_wp2_with (at_builtin; refine appB wr p.vo p.vn p.vc _ HBl.out rfl (.tmp 22) (.tmp 28) rfl rfl rfl ?_; intro bo cc w5 S5 b5; have HFin : Hid (BodyIs w5 pn X Y y (.returned (.tuple #[.slice bo p.vn cc, .bool true]))) := Or.inl ⟨k, bo, cc, HLT.out, by rw [HPK.out]; exact HY.out, HF.out, by rw [HPK.out], by rw [HPK.out]; exact S5⟩; have HBF : Hid (Below w.heap.size w w5) := HX.out.bel.trans (b5.mono HX.out.bel.size); clear S5 b5)
        go_ret2
        exact ⟨HFin.out, HBF.out⟩
      · have HFn := hide (first_step HF.out (by rw [HPK.out, HY.out]; exact h1))
        clear e5 e1
        go_wp2_with fail
        go_roundw
        case rel => exact ⟨k + 1, HLT.out, by rw [HK1.out], HFn, trivial⟩
        case measure => rw [HK1.out]; have := HLT.out; simp [intOf]; omega
    · have HFin : Hid (BodyIs wr pn X Y q (.returned (.tuple #[.slice none 0 0, .bool false]))) := Or.inr ⟨fun j hj => HF.out j (by omega), rfl⟩
      have HBF : Hid (Below w.heap.size w wr) := HX.out.bel
      go_wp2_with fail
      go_ret2
      exact ⟨HFin.out, HBF.out⟩
end Go.Proofs.Ytmpklgnoliicbaa
