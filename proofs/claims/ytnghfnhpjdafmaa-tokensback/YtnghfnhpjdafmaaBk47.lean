/- FPs -/
import Derived.Test.YtnghfnhpjdafmaaBk46
import Derived.Lib.MinMax
import Derived.Lib.Strings
namespace Go.Proofs.Ytnghfnhpjdafmaa
open Go.RowKit
attribute [local go_sem ↓] ldP_eq stP_eq ldTo_eq stTo_eq bldT_eq run_bldT run_bldT0
attribute [local go_sem] zero_PC cells_PV PC_size cells_ToV ToC_size zero_ToC
variable {w w' w2 W W' : World} {g gv gr : Nat} {Z : List Int}

theorem strL_str (s : ByteArray) : strOfNums (strL s) = s := by
  unfold strOfNums strL
  simp [List.map_map, Function.comp_def]
theorem strL_inj {s u : ByteArray} (h : strL s = strL u) : s = u := by rw [← strL_str s, h, strL_str]
theorem strL_of {Z : List Int} (h : ∀ x ∈ Z, 0 ≤ x ∧ x ≤ 255) : strL (strOfNums Z) = Z := by
  unfold strOfNums strL
  simp only [List.map_map]
  conv => rhs; rw [← List.map_id Z]
  refine List.map_congr_left fun x hx => ?_
  have := h x hx
  simp only [Function.comp, id]
  rw [UInt8.toNat_ofNat']
  omega
theorem strL_take (s : ByteArray) (m : Nat) : strL (s.extract 0 m) = (strL s).take m := by
  unfold strL
  rw [ByteArray.data_extract, Array.toList_extract]
  simp [List.extract, List.map_take]
theorem unF_is : ∀ (L : List Int) (n b : Nat) (Y : List Int), n < 8 → b < 2 ^ n → unF n b L = some Y → (∀ x ∈ Y, 0 ≤ x ∧ x ≤ 255) ∧ Y.length ≤ L.length
  | [], n, b, Y, _, _, h => by
    rw [unF] at h
    cases h
    exact ⟨fun x hx => (by cases hx), Nat.le_refl _⟩
  | c :: t, n, b, Y, hn, hb, h => by
    rw [unF] at h
    split at h
    · cases h
    · rename_i hv
      have hv2 := valF_lt c
      have hu := up55 (v := (valF c).toNat) hb (by clear hb; omega)
      split at h
      · rename_i h8
        have e3 : n + 5 = (n - 3) + 8 := by clear hb hu; omega
        rw [e3] at hu
        have hy := sub8 hu
        obtain ⟨Y', h', rfl⟩ := Option.map_eq_some_iff.1 h
        obtain ⟨i1, i2⟩ := unF_is t (n - 3) _ Y' (by clear hb hu; omega) (Nat.mod_lt _ (Nat.two_pow_pos _)) h'
        refine ⟨fun x hx => ?_, by rw [List.length_cons, List.length_cons]; exact Nat.succ_le_succ i2⟩
        rcases List.mem_cons.1 hx with rfl | hx
        · generalize (b * 32 + (valF c).toNat) / 2 ^ (n - 3) = y at hy
          clear hb hu
          omega
        · exact i1 x hx
      · rename_i h8
        obtain ⟨i1, i2⟩ := unF_is t (n + 5) _ Y (by clear hb hu; omega) hu h
        exact ⟨i1, Nat.le_trans i2 (Nat.le_succ _)⟩
theorem bytes_ext {s u : ByteArray} (h : s.toList = u.toList) : s = u := by
  rw [Lib.toList_data, Lib.toList_data] at h
  exact ByteArray.ext (Array.ext' h)
/-- what Parse answers -/
def PsT (w w' : World) (L : List Int) (r : Ending) : Prop := Below w.heap.size w w' ∧
  ((∃ c p, TokOk c p.P ∧ L = textL c p.P ∧ r = .returned (.tuple #[ToV (mkT c p), .int .i64 0]) ∧ PN w.heap.size w' p) ∨
    ((∀ c P, TokOk c P → L ≠ textL c P) ∧ r = .returned (.tuple #[ToV to0, .int .i64 17])))
theorem textL_ob (c : Int) (P : Pst) : ∀ x ∈ textL c P, 0 ≤ x ∧ x ≤ 255 := by
  have hb : ∀ y : UInt8, 0 ≤ ((y.toNat : Nat) : Int) ∧ ((y.toNat : Nat) : Int) ≤ 255 := fun y => by have := y.toNat_lt; omega
  intro x hx
  rcases List.mem_append.1 hx with h | h
  · obtain ⟨v, -, rfl⟩ := (bodyF_is c P).1 x h
    exact hb _
  · rw [List.mem_singleton.1 h]
    exact hb _
theorem textL_take {L : List Int} {c : Int} {P : Pst} (h : L = textL c P) : unF 0 0 (L.take (L.length - 1)) = some (tokB c P) := by
  rw [h, textL_len, Nat.add_sub_cancel]
  unfold textL
  rw [List.take_left]
  exact (un_all _ (tokB_ob c P)).1
set_option maxRecDepth 100000 in
set_option maxHeartbeats 4000000 in
theorem parse_any (s : ByteArray) (w : World) (hs : s.size ≤ 140737488355328) : Calls Try.prog 40 #[.string s] w fun r w' => PsT w w' (strL s) r := by
  have b1 := below_new w (.cells (ToC to0) 52)
  have x1 := ToBox_new w to0
  have s1 := World.size_alloc w (.cells (ToC to0) 52)
  obtain ⟨w1, hw1⟩ : ∃ w1, w.alloc (.cells (ToC to0) 52) = w1 := ⟨_, rfl⟩
  obtain ⟨g1, hg1⟩ : ∃ g1, w.heap.size = g1 := ⟨_, rfl⟩
  rw [hw1] at b1 x1 s1
  rw [hg1] at x1
  have HX := hide x1
  have HB : Hid (Below w.heap.size w w1 ∧ w.heap.size = g1) := ⟨b1, hg1⟩
  obtain ⟨n, hn⟩ : ∃ n, s.size = n := ⟨_, rfl⟩
  obtain ⟨m, hm⟩ : ∃ m, n - 1 = m := ⟨_, rfl⟩
  have hmx : ∀ (ts : Array TypeId) (t : TypeId) (w : World), (Builtin.max_ ts t #[.int .i64 ((n : Int) - 1), .int .i64 0]).run Try.prog w = .ok (.int .i64 (m : Int)) w := fun ts t w => by
    rw [show (m : Int) = max ((n : Int) - 1) 0 by omega]
    exact Lib.run_max_ints ..
  have hmn : m ≤ n := by omega
  rw [hn] at hs
  have hsub := unspell_any (s.extract 0 m) w1 (by rw [ByteArray.size_extract]; omega)
  rw [strL_take] at hsub
  have HU := hide hsub
  have HL : Hid (m = (strL s).length - 1) := by show _ = _; rw [strL_len, hn, hm]
  have HF : Hid (∀ w3, Below w1.heap.size w1 w3 → (∀ c P, TokOk c P → strL s ≠ textL c P) → PsT w (w3.setRow g1 (ToC to0)) (strL s) (.returned (.tuple #[ToV to0, .int .i64 17])) ∧ ToBox (w3.setRow g1 (ToC to0)) g1 to0) := fun w3 b3 h3 => ⟨⟨below_setRow (HB.out.1.trans (b3.mono HB.out.1.size)) (by have := HB.out.2; omega), .inr ⟨h3, rfl⟩⟩, (HX.out.below b3).setRow⟩
  have HT : Hid (∀ c P, strL s = textL c P → unF 0 0 ((strL s).take m) = some (tokB c P)) := fun c P h => by rw [HL.out]; exact textL_take h
  clear hsub b1 x1 s1 hm
  go_enter Try.func40, Try.ntmps40
  go_wp2_with fail
  clear hw1 hg1 hmx
  refine HU.out.mono ?_
  rintro r w2 (⟨hu, rfl, b2⟩ | ⟨Y, bo, ny, cy, hu, rfl, hY, hN⟩)
  · have t2 := run_stTo (m' := to0) (HX.out.below b2)
    have HE := hide (HF.out w2 b2 (fun c P _ h => by rw [HT.out c P h] at hu; cases hu))
    clear hu b2 HF HU
    go_wp2_with fail
    refine bodyPost_ret (res2To rfl rfl rfl HE.out.2) rfl ?_
    exact HE.out.1
  · have hyl := hY.len
    obtain ⟨hy1, hy2⟩ := unF_is _ 0 0 Y (by decide) (by decide) hu
    have hys : ny ≤ 140737488355328 := by
      rw [List.length_take, strL_len, hn] at hy2
      omega
    have HG := hide (tokGet_any bo ny cy Y w2 ⟨hyl, hY.bs.nil, hY.bs.cell, oc_of_ob hy1⟩ hY.cap hys)
    clear hy1 hy2
    have HU2 : Hid (unF 0 0 ((strL s).take m) = some Y) := hu
    have HB2 := hide hN.1
    clear hu hY hN hyl hys HU
    go_wp2_with fail
    refine HG.out.mono ?_
    rintro r w3 ⟨b3, h⟩
    obtain ⟨g6, hg6⟩ : ∃ g6, w3.heap.size = g6 := ⟨_, rfl⟩
    have HB3 := hide (HB2.out.trans (b3.mono HB2.out.size))
    have hs2 := HB2.out.size
    rcases h with ⟨c, p, hT, hZ, rfl, hP⟩ | ⟨hno, rfl⟩
    · obtain ⟨w4, hr4, B4, b4, s4⟩ := madeTo w3 (mkT c p) g6 hg6
      have l4 := run_ldTo B4
      have HB4 := hide (HB3.out.trans (b4.mono HB3.out.size))
      have HP4 := hide ((hP.below b4).mono hs2)
      have HT4 := hide hT
      have HZ4 := hide hZ
      have HX4 := hide B4
      have hlt6 : g1 < w4.heap.size := by have h1 := HX.out.lt; have h2 := HB4.out.size; omega
      have hg61 : ToBox w4 g1 to0 := HX.out.below HB4.out
      have HX1 := hide hg61
      have HG6 : Hid (g1 < g6) := by show g1 < g6; have h1 := HX.out.lt; have h2 := HB3.out.size; omega
      clear hT hZ hP b3 b4 s4 hs2 hlt6 hg61 HG
      go_wp2_with fail
      clear hg6
      refine (text_any c p _ HP4.out.src).mono ?_
      rintro r w5 (⟨hno, -, -⟩ | ⟨-, rfl, b5⟩)
      · exact absurd HT4.out hno
      have l5 := run_ldTo (HX4.out.below b5)
      have HB5 := hide (HB4.out.trans (b5.mono HB4.out.size))
      by_cases he : strOfNums (textL c p.P) = s
      · have t5 := run_stTo (m' := mkT c p) (HX1.out.below b5)
        have HE : Hid (PsT w (w5.setRow g1 (ToC (mkT c p))) (strL s) (.returned (.tuple #[ToV (mkT c p), .int .i64 0])) ∧ ToBox (w5.setRow g1 (ToC (mkT c p))) g1 (mkT c p)) := by
          have h1 := HB.out.2
          have h2 := HX.out.lt
          have h3 := HB.out.1.size
          refine ⟨⟨below_setRow (HB.out.1.trans (HB5.out.mono HB.out.1.size)) (by omega), .inl ⟨c, p, HT4.out, ?_, rfl, ((HP4.out.below b5).keep (fun k h1 h2 => setRow_other _ _ _ _ (by omega))).mono (by omega)⟩⟩, (HX1.out.below b5).setRow⟩
          rw [← he, strL_of (textL_ob c p.P)]
        subst he
        clear b5 l4 HF HU2 HT HL
        go_wp2_with fail
        refine bodyPost_ret (res2To rfl rfl rfl HE.out.2) rfl ?_
        exact HE.out.1
      · have t5 := run_stTo (m' := to0) (HX1.out.below b5)
        have HE := hide (HF.out w5 HB5.out (fun c' P' h' e => by
          have e1 := HT.out c' P' e
          rw [HU2.out, HZ4.out] at e1
          obtain ⟨rfl, rfl⟩ := tokB_inj HT4.out h' (Option.some.inj e1)
          exact he (by rw [← e, strL_str])))
        have hne : (!(strOfNums (textL c p.P)).toList == s.toList) = true := by
          have h2 : ((strOfNums (textL c p.P)).toList == s.toList) = false := by
            rw [beq_eq_false_iff_ne]
            exact fun h => he (bytes_ext h)
          rw [h2]; rfl
        clear b5 l4 HF HU2 HT HL
        go_wp2_with fail
        refine bodyPost_ret (res2To rfl rfl rfl HE.out.2) rfl ?_
        exact HE.out.1
    · obtain ⟨w4, hr4, B4, b4, s4⟩ := madeTo w3 to0 g6 hg6
      have HB4 := hide (HB3.out.trans (b4.mono HB3.out.size))
      have t4 := run_stTo (m' := to0) (HX.out.below HB4.out)
      have HE := hide (HF.out w4 HB4.out (fun c P h e => by
        have e1 := HT.out c P e
        rw [HU2.out] at e1
        exact hno c P h (Option.some.inj e1)))
      clear hno b3 b4 s4 hs2 HF HG
      go_wp2_with fail
      refine bodyPost_ret (res2To rfl rfl rfl HE.out.2) rfl ?_
      exact HE.out.1
end Go.Proofs.Ytnghfnhpjdafmaa
