/- FPs QIn -/
import Derived.Test.YtnghfnhpjdafmaaSl37
import Derived.Lib.MinMax
import Derived.Lib.Strings
import Derived.Test.YtnghfnhpjdafmaaSl09
import Derived.Test.YtnghfnhpjdafmaaSl06
import Derived.Laws.AppendOwnNone
import Derived.Maps.AppendAt
namespace Go.Proofs.Ytnghfnhpjdafmaa
open Go.RowKit
attribute [local go_sem ↓] ldP_eq stP_eq ldTo_eq stTo_eq bldT_eq run_bldT run_bldT0
attribute [local go_sem] zero_PC cells_PV PC_size cells_ToV ToC_size zero_ToC
variable {w w' w2 W W' : World} {g gv gr : Nat} {Z : List Int}

theorem strL_str (s : ByteArray) : strOfNums (strL s) = s := by
  unfold strOfNums strL
  simp [List.map_map, Function.comp_def]
theorem strL_inj {s u : ByteArray} (h : strL s = strL u) : s = u := by rw [← strL_str s, h, strL_str]
theorem strL_of {Z : List Int} (h : ∀ x ∈ Z, 0 ≤ x ∧ x ≤ 255) : strL (strOfNums Z) = Z := by
  unfold strOfNums strL
  simp only [List.map_map]
  conv => rhs; rw [← List.map_id Z]
  refine List.map_congr_left fun x hx => ?_
  have := h x hx
  simp only [Function.comp, id]
  rw [UInt8.toNat_ofNat']
  omega
theorem strL_take (s : ByteArray) (m : Nat) : strL (s.extract 0 m) = (strL s).take m := by
  unfold strL
  rw [ByteArray.data_extract, Array.toList_extract]
  simp [List.extract, List.map_take]
theorem unF_is : ∀ (L : List Int) (n b : Nat) (Y : List Int), n < 8 → b < 2 ^ n → unF n b L = some Y → (∀ x ∈ Y, 0 ≤ x ∧ x ≤ 255) ∧ Y.length ≤ L.length
  | [], n, b, Y, _, _, h => by
    rw [unF] at h
    cases h
    exact ⟨fun x hx => (by cases hx), Nat.le_refl _⟩
  | c :: t, n, b, Y, hn, hb, h => by
    rw [unF] at h
    split at h
    · cases h
    · rename_i hv
      have hv2 := valF_lt c
      have hu := up55 (v := (valF c).toNat) hb (by clear hb; omega)
      split at h
      · rename_i h8
        have e3 : n + 5 = (n - 3) + 8 := by clear hb hu; omega
        rw [e3] at hu
        have hy := sub8 hu
        obtain ⟨Y', h', rfl⟩ := Option.map_eq_some_iff.1 h
        obtain ⟨i1, i2⟩ := unF_is t (n - 3) _ Y' (by clear hb hu; omega) (Nat.mod_lt _ (Nat.two_pow_pos _)) h'
        refine ⟨fun x hx => ?_, by rw [List.length_cons, List.length_cons]; exact Nat.succ_le_succ i2⟩
        rcases List.mem_cons.1 hx with rfl | hx
        · generalize (b * 32 + (valF c).toNat) / 2 ^ (n - 3) = y at hy
          clear hb hu
          omega
        · exact i1 x hx
      · rename_i h8
        obtain ⟨i1, i2⟩ := unF_is t (n + 5) _ Y (by clear hb hu; omega) hu h
        exact ⟨i1, Nat.le_trans i2 (Nat.le_succ _)⟩
theorem bytes_ext {s u : ByteArray} (h : s.toList = u.toList) : s = u := by
  rw [Lib.toList_data, Lib.toList_data] at h
  exact ByteArray.ext (Array.ext' h)
/-- what Parse answers -/
def PsT (w w' : World) (L : List Int) (r : Ending) : Prop := Below w.heap.size w w' ∧
  ((∃ c p, TokOk c p.P ∧ L = textL c p.P ∧ r = .returned (.tuple #[ToV (mkT c p), .int .i64 0]) ∧ PN w.heap.size w' p) ∨
    ((∀ c P, TokOk c P → L ≠ textL c P) ∧ r = .returned (.tuple #[ToV to0, .int .i64 17])))
theorem textL_ob (c : Int) (P : Pst) : ∀ x ∈ textL c P, 0 ≤ x ∧ x ≤ 255 := by
  have hb : ∀ y : UInt8, 0 ≤ ((y.toNat : Nat) : Int) ∧ ((y.toNat : Nat) : Int) ≤ 255 := fun y => by have := y.toNat_lt; omega
  intro x hx
  rcases List.mem_append.1 hx with h | h
  · obtain ⟨v, -, rfl⟩ := (bodyF_is c P).1 x h
    exact hb _
  · rw [List.mem_singleton.1 h]
    exact hb _
theorem textL_take {L : List Int} {c : Int} {P : Pst} (h : L = textL c P) : unF 0 0 (L.take (L.length - 1)) = some (tokB c P) := by
  rw [h, textL_len, Nat.add_sub_cancel]
  unfold textL
  rw [List.take_left]
  exact (un_all _ (tokB_ob c P)).1
set_option maxRecDepth 100000 in
set_option maxHeartbeats 4000000 in
theorem parse_any (s : ByteArray) (w : World) (hs : s.size ≤ 140737488355328) : Calls Try.prog 40 #[.string s] w fun r w' => PsT w w' (strL s) r := by
  have b1 := below_new w (.cells (ToC to0) 52)
  have x1 := ToBox_new w to0
  have s1 := World.size_alloc w (.cells (ToC to0) 52)
  obtain ⟨w1, hw1⟩ : ∃ w1, w.alloc (.cells (ToC to0) 52) = w1 := ⟨_, rfl⟩
  obtain ⟨g1, hg1⟩ : ∃ g1, w.heap.size = g1 := ⟨_, rfl⟩
  rw [hw1] at b1 x1 s1
  rw [hg1] at x1
  have HX := hide x1
  have HB : Hid (Below w.heap.size w w1 ∧ w.heap.size = g1) := ⟨b1, hg1⟩
  obtain ⟨n, hn⟩ : ∃ n, s.size = n := ⟨_, rfl⟩
  obtain ⟨m, hm⟩ : ∃ m, n - 1 = m := ⟨_, rfl⟩
  have hmx : ∀ (ts : Array TypeId) (t : TypeId) (w : World), (Builtin.max_ ts t #[.int .i64 ((n : Int) - 1), .int .i64 0]).run Try.prog w = .ok (.int .i64 (m : Int)) w := fun ts t w => by
    rw [show (m : Int) = max ((n : Int) - 1) 0 by omega]
    exact Lib.run_max_ints ..
  have hmn : m ≤ n := by omega
  rw [hn] at hs
  have hsub := unspell_any (s.extract 0 m) w1 (by rw [ByteArray.size_extract]; omega)
  rw [strL_take] at hsub
  have HU := hide hsub
  have HL : Hid (m = (strL s).length - 1) := by show _ = _; rw [strL_len, hn, hm]
  have HF : Hid (∀ w3, Below w1.heap.size w1 w3 → (∀ c P, TokOk c P → strL s ≠ textL c P) → PsT w (w3.setRow g1 (ToC to0)) (strL s) (.returned (.tuple #[ToV to0, .int .i64 17])) ∧ ToBox (w3.setRow g1 (ToC to0)) g1 to0) := fun w3 b3 h3 => ⟨⟨below_setRow (HB.out.1.trans (b3.mono HB.out.1.size)) (by have := HB.out.2; omega), .inr ⟨h3, rfl⟩⟩, (HX.out.below b3).setRow⟩
  have HT : Hid (∀ c P, strL s = textL c P → unF 0 0 ((strL s).take m) = some (tokB c P)) := fun c P h => by rw [HL.out]; exact textL_take h
  clear hsub b1 x1 s1 hm
  go_enter Try.func40, Try.ntmps40
  go_wp2_with fail
  clear hw1 hg1 hmx
  refine HU.out.mono ?_
  rintro r w2 (⟨hu, rfl, b2⟩ | ⟨Y, bo, ny, cy, hu, rfl, hY, hN⟩)
  · have t2 := run_stTo (m' := to0) (HX.out.below b2)
    have HE := hide (HF.out w2 b2 (fun c P _ h => by rw [HT.out c P h] at hu; cases hu))
    clear hu b2 HF HU
    go_wp2_with fail
    refine bodyPost_ret (res2To rfl rfl rfl HE.out.2) rfl ?_
    exact HE.out.1
  · have hyl := hY.len
    obtain ⟨hy1, hy2⟩ := unF_is _ 0 0 Y (by decide) (by decide) hu
    have hys : ny ≤ 140737488355328 := by
      rw [List.length_take, strL_len, hn] at hy2
      omega
    have HG := hide (tokGet_any bo ny cy Y w2 ⟨hyl, hY.bs.nil, hY.bs.cell, oc_of_ob hy1⟩ hY.cap hys)
    clear hy1 hy2
    have HU2 : Hid (unF 0 0 ((strL s).take m) = some Y) := hu
    have HB2 := hide hN.1
    clear hu hY hN hyl hys HU
    go_wp2_with fail
    refine HG.out.mono ?_
    rintro r w3 ⟨b3, h⟩
    obtain ⟨g6, hg6⟩ : ∃ g6, w3.heap.size = g6 := ⟨_, rfl⟩
    have HB3 := hide (HB2.out.trans (b3.mono HB2.out.size))
    have hs2 := HB2.out.size
    rcases h with ⟨c, p, hT, hZ, rfl, hP⟩ | ⟨hno, rfl⟩
    · obtain ⟨w4, hr4, B4, b4, s4⟩ := madeTo w3 (mkT c p) g6 hg6
      have l4 := run_ldTo B4
      have HB4 := hide (HB3.out.trans (b4.mono HB3.out.size))
      have HP4 := hide ((hP.below b4).mono hs2)
      have HT4 := hide hT
      have HZ4 := hide hZ
      have HX4 := hide B4
      have hlt6 : g1 < w4.heap.size := by have h1 := HX.out.lt; have h2 := HB4.out.size; omega
      have hg61 : ToBox w4 g1 to0 := HX.out.below HB4.out
      have HX1 := hide hg61
      have HG6 : Hid (g1 < g6) := by show g1 < g6; have h1 := HX.out.lt; have h2 := HB3.out.size; omega
      clear hT hZ hP b3 b4 s4 hs2 hlt6 hg61 HG
      go_wp2_with fail
      clear hg6
      refine (text_any c p _ HP4.out.src).mono ?_
      rintro r w5 (⟨hno, -, -⟩ | ⟨-, rfl, b5⟩)
      · exact absurd HT4.out hno
      have l5 := run_ldTo (HX4.out.below b5)
      have HB5 := hide (HB4.out.trans (b5.mono HB4.out.size))
      by_cases he : strOfNums (textL c p.P) = s
      · have t5 := run_stTo (m' := mkT c p) (HX1.out.below b5)
        have HE : Hid (PsT w (w5.setRow g1 (ToC (mkT c p))) (strL s) (.returned (.tuple #[ToV (mkT c p), .int .i64 0])) ∧ ToBox (w5.setRow g1 (ToC (mkT c p))) g1 (mkT c p)) := by
          have h1 := HB.out.2
          have h2 := HX.out.lt
          have h3 := HB.out.1.size
          refine ⟨⟨below_setRow (HB.out.1.trans (HB5.out.mono HB.out.1.size)) (by omega), .inl ⟨c, p, HT4.out, ?_, rfl, ((HP4.out.below b5).keep (fun k h1 h2 => setRow_other _ _ _ _ (by omega))).mono (by omega)⟩⟩, (HX1.out.below b5).setRow⟩
          rw [← he, strL_of (textL_ob c p.P)]
        subst he
        clear b5 l4 HF HU2 HT HL
        go_wp2_with fail
        refine bodyPost_ret (res2To rfl rfl rfl HE.out.2) rfl ?_
        exact HE.out.1
      · have t5 := run_stTo (m' := to0) (HX1.out.below b5)
        have HE := hide (HF.out w5 HB5.out (fun c' P' h' e => by
          have e1 := HT.out c' P' e
          rw [HU2.out, HZ4.out] at e1
          obtain ⟨rfl, rfl⟩ := tokB_inj HT4.out h' (Option.some.inj e1)
          exact he (by rw [← e, strL_str])))
        have hne : (!(strOfNums (textL c p.P)).toList == s.toList) = true := by
          have h2 : ((strOfNums (textL c p.P)).toList == s.toList) = false := by
            rw [beq_eq_false_iff_ne]
            exact fun h => he (bytes_ext h)
          rw [h2]; rfl
        clear b5 l4 HF HU2 HT HL
        go_wp2_with fail
        refine bodyPost_ret (res2To rfl rfl rfl HE.out.2) rfl ?_
        exact HE.out.1
    · obtain ⟨w4, hr4, B4, b4, s4⟩ := madeTo w3 to0 g6 hg6
      have HB4 := hide (HB3.out.trans (b4.mono HB3.out.size))
      have t4 := run_stTo (m' := to0) (HX.out.below HB4.out)
      have HE := hide (HF.out w4 HB4.out (fun c P h e => by
        have e1 := HT.out c P e
        rw [HU2.out] at e1
        exact hno c P h (Option.some.inj e1)))
      clear hno b3 b4 s4 hs2 HF HG
      go_wp2_with fail
      refine bodyPost_ret (res2To rfl rfl rfl HE.out.2) rfl ?_
      exact HE.out.1
end Go.Proofs.Ytnghfnhpjdafmaa
namespace Go.Proofs.Ytnghfnhpjdafmaa
open Go.RowKit

theorem isrc_at {w : World} {ao : Option Addr} {n c : Nat} {Z : List Int} (S : V.Src w ao n c Z) (k : Nat) (h : k < n) : ∃ ad, ao = some ad ∧ w.cell? (ad.add k) = some (.int .i64 (Z.getD k 0)) := by
  cases ao with
  | none => have := S.2.1 rfl; omega
  | some ad => exact ⟨ad, rfl, S.2.2 ad rfl k h⟩
def ics (L : List Int) : List Value := L.map (Value.int .i64)
theorem ics_append (L M : List Int) : ics (L ++ M) = ics L ++ ics M := by simp [ics]
theorem ics_length (L : List Int) : (ics L).length = L.length := by simp [ics]
theorem ics_one (L : List Int) : ∀ u ∈ ics L, u.oneCell' = true := by
  intro u hu
  obtain ⟨z, _, rfl⟩ := List.mem_map.1 hu
  rfl
theorem ics_at (L : List Int) (t : Nat) (ht : t < L.length) : (ics L)[t]? = some (.int .i64 (L.getD t 0)) := by
  simp [ics, ht, List.getD]
/-- the slice owns just these numbers, in blocks from B on; below B0 all is as it was -/
structure OwnI (B0 B : Nat) (w w' : World) (ao : Option Addr) (cap : Nat) (acc : List Int) : Prop where
  own : w'.ownsRow B 3 1 (.slice ao acc.length cap) acc.length (ics acc)
  below : Below B0 w w'
  hB : B ≤ w'.heap.size
  hB0 : B0 ≤ B
theorem OwnI.nil {B0 B : Nat} {w w' : World} (hb : Below B0 w w') (hB : B ≤ w'.heap.size) (h0 : B0 ≤ B) : OwnI B0 B w w' none 0 [] :=
  ⟨World.ownsRow_nil _ _ _ _, hb, hB, h0⟩
theorem OwnI.later {B0 B : Nat} {w w' w2 : World} {ao : Option Addr} {cap : Nat} {acc : List Int} (O : OwnI B0 B w w' ao cap acc) (hb : Below w'.heap.size w' w2) : OwnI B0 B w w2 ao cap acc := by
  refine ⟨⟨O.own.1, ?_⟩, O.below.trans (hb.mono (Nat.le_trans O.hB0 O.hB)), Nat.le_trans O.hB hb.size, O.hB0⟩
  rcases O.own.2 with h | ⟨g, cap2, cur, hv, hbg, hgg, r⟩
  · exact Or.inl h
  · exact Or.inr ⟨g, cap2, cur, hv, hbg, (hb.block g (Array.getElem?_eq_some_iff.1 hgg).1).trans hgg, r⟩
theorem infoI : (Try.prog.info? 3).map (fun i => (i.zero, i.size, i.bytes)) = some (some (.int .i64 0), 1, 8) := by kernel_rfl
/-- a list of numbers is appended, as an operation; also what becomes of the other blocks -/
theorem OwnI.append {B0 B : Nat} {w w' : World} {ao : Option Addr} {cap : Nat} {acc : List Int} (O : OwnI B0 B w w' ao cap acc) (E : List Int) (ad : Addr) (m c : Nat) (S : V.Src w' (some ad) m c E) (hlen : acc.length + m ≤ 17592186044415)
    {ops : Array Oper} {rest : List Oper} {o : Oper} {a : Act} {Q : Exit → Act → World → Prop} (hgd : o.guard = none) (s x : Operand) (ho : o.op = .call { callee := .builtin .append, args := #[s, x], argTypes := #[22, 22] })
    (n : Nat) (hn : acc.length = n) (hs : a.eval s = .slice ao n cap) (hx : a.eval x = .slice (some ad) m c)
    (hK : ∀ (ao2 : Option Addr) (cap2 : Nat) (w2 : World), OwnI B0 B w w2 ao2 cap2 (acc ++ E) → (∀ k, k < w'.heap.size → (Value.slice ao acc.length cap).ownBlock ≠ some k → w2.heap[k]? = w'.heap[k]? ∧ ∀ ad2, ao2 = some ad2 → ad2.block ≠ k) → w'.heap.size ≤ w2.heap.size → wpList Try.prog ops Q rest (a.put o.dst (.slice ao2 (n + m) cap2)) w2) :
    wpList Try.prog ops Q (o :: rest) a w' := by
  subst hn
  obtain rfl : E.length = m := S.1
  obtain ⟨i0, hi, hz0, hz1, hz2⟩ := info_parts infoI
  have hB := O.hB
  have hB0 := O.hB0
  refine wpList_append_own_at _ hgd s x 22 ho B 3 i0 (.int .i64 0) 1 8 Try.underlying22 hi hz0 hz1 hz2 rfl (by decide) _ acc.length (ics acc) hs O.own ad E.length c (ics E) hx (by rw [ics_length, Nat.mul_one]) (fun j u hj => ?_) (ics_one E) (by unfold maxLen; omega) (by omega) hB ?_
  · have hl : j < E.length := by rw [← ics_length]; exact (List.getElem?_eq_some_iff.1 hj).1
    rw [ics_at E j hl] at hj
    rw [S.2.2 ad rfl j hl]
    exact hj
  intro v' w2 hown hgrow _ hat
  have hrow : ∀ k, (Value.slice ao acc.length cap).ownBlock = some k → B ≤ k := fun k hk => (O.own.lt k hk).1
  have hsz := hgrow.size
  have hb2 : Below B0 w w2 := O.below.grown hgrow (by omega) (fun k hk => by have := hrow k hk; omega)
  rw [← ics_append] at hown
  rcases hown.2 with ⟨h0, h00⟩ | ⟨g, cap2, cur, hv, r⟩
  · subst h0
    have e1 : acc = [] := List.eq_nil_of_length_eq_zero (by omega)
    have e2 : E = [] := List.eq_nil_of_length_eq_zero (by omega)
    subst e1 e2
    exact hK none 0 w2 ⟨hown, hb2, by omega, hB0⟩ (fun k hk hne => ⟨hgrow.block k hk (fun e => hne e.symm), fun ad2 h => by cases h⟩) hsz
  · subst hv
    refine hK (some ⟨g, 0, none⟩) cap2 w2 ⟨by rw [List.length_append]; exact hown, hb2, by omega, hB0⟩ (fun k hk hne => ⟨hgrow.block k hk (fun e => hne e.symm), fun ad2 h e => ?_⟩) hsz
    obtain rfl := Option.some.inj h
    have e' : g = k := e
    rcases hat with h | h
    · exact hne (by rw [← h, ← e']; rfl)
    · simp [Value.ownBlock] at h; omega
theorem OwnI.appendS {B0 B : Nat} {w w' : World} {ao : Option Addr} {cap : Nat} {acc : List Int} (O : OwnI B0 B w w' ao cap acc) (E : List Int) (xo : Option Addr) (m c : Nat) (S : V.Src w' xo m c E) (hlen : acc.length + m ≤ 17592186044415)
    {ops : Array Oper} {rest : List Oper} {o : Oper} {a : Act} {Q : Exit → Act → World → Prop} (hgd : o.guard = none) (s x : Operand) (ho : o.op = .call { callee := .builtin .append, args := #[s, x], argTypes := #[22, 22] })
    (n : Nat) (hn : acc.length = n) (hs : a.eval s = .slice ao n cap) (hx : a.eval x = .slice xo m c)
    (hK : ∀ (ao2 : Option Addr) (cap2 : Nat) (w2 : World), OwnI B0 B w w2 ao2 cap2 (acc ++ E) → wpList Try.prog ops Q rest (a.put o.dst (.slice ao2 (n + m) cap2)) w2) :
    wpList Try.prog ops Q (o :: rest) a w' := by
  cases xo with
  | some ad => exact O.append E ad m c S hlen hgd s x ho n hn hs hx (fun ao2 cap2 w2 h _ _ => hK ao2 cap2 w2 h)
  | none =>
    obtain ⟨rfl, rfl⟩ := S.2.1 rfl
    have e := List.eq_nil_of_length_eq_zero S.1
    subst e
    subst hn
    obtain ⟨i0, hi, hz0, hz1, hz2⟩ := info_parts infoI
    refine wpList_append_own_none hgd s x 22 ho B 3 i0 1 Try.underlying22 hi _ acc.length (ics acc) hs O.own hx ?_
    have := hK ao cap w'
    rw [List.append_nil, Nat.add_zero] at this
    exact this O
theorem OwnI.src {B0 B : Nat} {w w' : World} {ao : Option Addr} {cap : Nat} {acc : List Int} (O : OwnI B0 B w w' ao cap acc) : V.Src w' ao acc.length cap acc ∧ (∀ ad, ao = some ad → B ≤ ad.block) ∧ acc.length ≤ cap ∧ cap ≤ maxLen := by
  rcases O.own.2 with ⟨h0, h00⟩ | ⟨g, cap2, cur, hv, hbg, hgg, hnc, hcm, hcsz, htake⟩
  · simp only [Value.slice.injEq] at h0
    obtain ⟨rfl, e0, rfl⟩ := h0
    exact ⟨⟨rfl, fun _ => ⟨h00, rfl⟩, fun ad h => (by cases h)⟩, fun ad h => (by cases h), by omega, by unfold maxLen; omega⟩
  · simp only [Value.slice.injEq, true_and] at hv
    obtain ⟨rfl, rfl⟩ := hv
    refine ⟨⟨rfl, fun h => (by cases h), fun ad h t ht => ?_⟩, fun ad h => by obtain rfl := Option.some.inj h; exact hbg, hnc, hcm⟩
    obtain rfl := Option.some.inj h
    rw [Addr.add_lit, Nat.zero_add, O.own.cellAt t (by omega), ics_at acc t ht]
/-- the row may lie in any of the blocks that stand -/
theorem src_off {w w' : World} {ao : Option Addr} {n c : Nat} {Z : List Int} (h : V.Src w ao n c Z) (hk : ∀ ad, ao = some ad → w'.heap[ad.block]? = w.heap[ad.block]?) : V.Src w' ao n c Z := h.off hk
theorem OwnI.made (w : World) (C : Array Value) (cap : Nat) (hc : C.size = cap * 1) (hm : cap ≤ maxLen) : OwnI w.heap.size w.heap.size w (w.alloc (.cells C 3)) (some ⟨w.heap.size, 0, none⟩) cap [] :=
  ⟨World.ownsRow_made w C cap (Nat.le_refl _) hm hc, below_new w _, by simp, Nat.le_refl _⟩
/-- the blocks of two rows are apart -/
theorem OwnI.lt {B0 B : Nat} {w w' : World} {ao : Option Addr} {cap : Nat} {acc : List Int} (O : OwnI B0 B w w' ao cap acc) {k : Nat} (h : (Value.slice ao acc.length cap).ownBlock = some k) : B ≤ k ∧ k < w'.heap.size := O.own.lt k h
theorem ilit1 (w : World) (x : Int) (C : Array Value) (hC : C = #[.int .i64 x]) (T : TypeId) : V.Src (w.alloc (.cells C T)) (some ⟨w.heap.size, 0, none⟩) 1 1 [x] := by
  subst hC
  refine ⟨rfl, fun h => (by cases h), fun ad h t ht => ?_⟩
  obtain rfl := Option.some.inj h
  rw [Addr.add_lit, Nat.zero_add, World.cell?_alloc_new]
  obtain rfl : t = 0 := by omega
  rfl
/-- parts of a row -/
theorem src_take {w : World} {ad : Addr} {n c : Nat} {Z : List Int} (h : V.Src w (some ad) n c Z) (k : Nat) (hk : k ≤ n) : V.Src w (some ad) k c (Z.take k) := by
  refine ⟨by rw [List.length_take, h.1]; omega, fun e => (by cases e), fun a e t ht => ?_⟩
  rw [h.2.2 a e t (by omega)]
  simp [List.getD, ht]
theorem src_drop {w : World} {ad : Addr} {n c : Nat} {Z : List Int} (h : V.Src w (some ad) n c Z) (k : Nat) (hk : k ≤ n) (c' : Nat) : V.Src w (some (ad.add k)) (n - k) c' (Z.drop k) := by
  refine ⟨by rw [List.length_drop, h.1], fun e => (by cases e), fun a e t ht => ?_⟩
  obtain rfl := Option.some.inj e
  rw [add_add, h.2.2 ad rfl (k + t) (by omega)]
  simp [List.getD, List.getElem?_drop]
end Go.Proofs.Ytnghfnhpjdafmaa
