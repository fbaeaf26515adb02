/- Fib FCh FTx -/
import Derived.Shelf.Small.Strs
import Derived.Test.YtnghfnhpjdafmaaProg
import Derived.Test.YtnghfnhpjdafmaaBk38
namespace Go.Proofs
open Go.Shelf
def Try.lays137_ren : Go.Shelf.Ren := ⟨fun | 137 => 138 | 217 => 147 | 266 => 162 | n => n, fun | 9 => 9 | 5 => 5 | 3 => 3 | n => n, fun | n => n⟩
theorem Try.lays137 : Go.Proofs.Lays.n137 Try.prog Try.lays137_ren := {
  mixed := by kernel_rfl
  f137 := Try.func138.trans (congrArg some (by kernel_rfl))
  f217 := Try.func147.trans (congrArg some (by kernel_rfl))
  f266 := Try.func162.trans (congrArg some (by kernel_rfl))
  t3 := Try.underlying3
  a3 := Try.isAgg3
  z3 := Try.sizeOf3
  v3 := Try.zeroValue3
  t5 := Try.underlying5
  a5 := Try.isAgg5
  z5 := Try.sizeOf5
  v5 := Try.zeroValue5
  t9 := Try.underlying9
  a9 := Try.isAgg9
  z9 := Try.sizeOf9
  v9 := Try.zeroValue9 }
/-- strings.IndexByte -/
theorem Try.strings_IndexByte (s : ByteArray) (c : Int) (w : World) :
    Calls Try.prog 138 #[.string s, .int .u8 c] w fun e w' => e = .returned (.int .i64 (Lib.indexByte s.data.toList c.toNat.toUInt8)) ∧ w' = w := Any.strings_IndexByte Try.lays137 s c w
end Go.Proofs
namespace Go.Proofs.Ytnghfnhpjdafmaa
open Go.RowKit

/-- the number of a letter; below 0 where it is none -/
def valF (c : Int) : Int := Lib.indexByte letS.data.toList c.toNat.toUInt8
theorem valF_ge (c : Int) : -1 ≤ valF c := Lib.indexByte_ge _ _
theorem valF_lt (c : Int) : valF c < 32 := by
  by_cases h : 0 ≤ valF c
  · obtain ⟨o, ho⟩ : ∃ o : Nat, valF c = o := ⟨(valF c).toNat, by omega⟩
    have h1 := (Lib.indexByte_some (l := letS.data.toList) (c := c.toNat.toUInt8) ho).1
    have h2 : o < letS.data.toList.length := (List.getElem?_eq_some_iff.1 h1).1
    have h3 : letS.data.toList.length = 32 := rfl
    omega
  · omega
theorem valF_lt32 (v : Nat) (h : v < 32) : valF (lt32 v) = v := by
  have : ∀ v : Fin 32, valF (lt32 v.1) = ((v.1 : Nat) : Int) := by decide +kernel
  exact this ⟨v, h⟩
theorem valueOf_any (c : Int) (w : World) : Calls Try.prog 115 #[.int .u8 c] w fun e w' => e = .returned (.int .i64 (valF c)) ∧ w' = w := by
  go_enter Try.func115, Try.ntmps115
  go_wp2_with (go_at_call 138; refine (Try.strings_IndexByte _ _ _).mono ?_; rintro e w' ⟨rfl, rfl⟩)
  go_ret
  exact ⟨rfl, rfl⟩
def chkS : ByteArray := ⟨#[48, 49, 50, 51, 52, 53, 54, 55, 56, 57, 65, 66, 67, 68, 69, 70, 71, 72, 74, 75, 77, 78, 80, 81, 82, 83, 84, 86, 87, 88, 89, 90, 42, 126, 36, 61, 85]⟩
theorem chkS_size : chkS.size = 37 := rfl
def ch37 (v : Nat) : Int := ((chkS.data.getD v 0).toNat : Int)
theorem ch_fold (v : Nat) (h : v < chkS.size) : ((chkS[v]'h).toNat : Int) = ch37 v := by
  unfold ch37
  rw [Array.getD_eq_getD_getElem?, Array.getElem?_eq_getElem (show v < chkS.data.size from h)]
  rfl
def ckF : Nat → List Int → Nat
  | r, [] => r
  | r, c :: t => ckF ((r * 32 + (valF c).toNat) % 37) t
set_option maxRecDepth 100000 in
set_option maxHeartbeats 3200000 in
theorem checkLetter_any (so : Option Addr) (m c : Nat) (Y : List Int) (w : World) (S : U.BS w so m c Y) (hv : ∀ t, t < m → 0 ≤ valF (Y.getD t 0)) (hm : m ≤ 1000000000000) :
    Calls Try.prog 82 #[.slice so m c] w fun e w' => e = .returned (.int .u8 (ch37 (ckF 0 Y))) ∧ w' = w := by
  have HS := hide S
  have HV := hide hv
  have hl := S.len
  have HL := hide hl
  clear S hv hl
  go_enter Try.func82, Try.ntmps82
  go_wp2_with fail
  go_loopw [3, 8] (fun r i wr => ∃ (k x : Nat), k ≤ m ∧ i = .int .i64 k ∧ r = .int .i64 x ∧ x < 37 ∧ w = wr ∧ Hid (ckF x (Y.drop k) = ckF 0 Y)) (fun _ i _ => m - (intOf i).toNat)
  case atStart => exact ⟨0, 0, Nat.zero_le _, rfl, rfl, by decide, rfl, rfl⟩
  case round =>
    obtain ⟨k, x, hk, rfl, rfl, hx, rfl, HZ⟩ := hrel
    by_cases hlt : k < m
    · obtain ⟨ad, rfl, q1⟩ := bs_at HS.out k hlt
      obtain ⟨y, hy⟩ : ∃ y : Int, Y.getD k 0 = y := ⟨_, rfl⟩
      have g1 := HV.out k hlt
      have g2 := valF_lt (Y.getD k 0)
      rw [hy] at q1 g1 g2
      obtain ⟨v, hv⟩ : ∃ v : Nat, valF y = v := ⟨(valF y).toNat, by omega⟩
      have hv32 : v < 32 := by omega
      have hdr : Y.drop k = y :: Y.drop (k + 1) := by
        rw [List.drop_eq_getElem_cons (by have := HL.out; omega), ← hy, List.getD_eq_getElem?_getD, List.getElem?_eq_getElem (by have := HL.out; omega)]
        rfl
      have HZ2 : Hid (ckF ((x * 32 + v) % 37) (Y.drop (k + 1)) = ckF 0 Y) := by
        have h1 := HZ.out
        rw [hdr, ckF, hv, Int.toNat_natCast] at h1
        exact h1
      have w1 : ((x : Int) * 32 + (v : Int)) % 37 = (((x * 32 + v) % 37 : Nat) : Int) := by omega
      have HC : Hid (Calls Try.prog 115 #[.int .u8 y] w fun e w' => e = .returned (.int .i64 (v : Int)) ∧ w' = w) := by rw [← hv]; exact valueOf_any y w
      clear g1 g2 hdr hy hv HZ
      go_wp2_with (go_at_call 115; refine HC.out.mono ?_; rintro e w' ⟨rfl, rfl⟩)
      exact ⟨⟨k + 1, (x * 32 + v) % 37, by omega, rfl, rfl, Nat.mod_lt _ (by decide), trivial, HZ2⟩, by show m - (k + 1) < m - k; omega⟩
    · have hkm : k = m := by omega
      have h1 := HZ.out
      rw [hkm, List.drop_eq_nil_of_le (by have := HL.out; omega)] at h1
      have HZ2 : Hid (x = ckF 0 Y) := h1
      have hI : 0 ≤ (x : Int) ∧ (x : Int) < 37 := by omega
      clear HZ h1
      go_wp2_with fail
      go_ret
      refine ⟨?_, rfl⟩
      rw [← HZ2.out, ← ch_fold x (by rw [chkS_size]; exact hx)]
      rfl
end Go.Proofs.Ytnghfnhpjdafmaa
namespace Go.Proofs.Ytnghfnhpjdafmaa
open Go.RowKit
attribute [local go_sem ↓] ldP_eq stP_eq ldTo_eq stTo_eq
attribute [local go_sem] zero_PC cells_PV PC_size cells_ToV ToC_size

theorem emit_is : ∀ (n b : Nat), b < 2 ^ n → (∀ x ∈ (emit n b).1, ∃ v, v < 32 ∧ x = lt32 v) ∧ (emit n b).2 < 2 ^ (n % 5) ∧ 5 * (emit n b).1.length ≤ n := fun n => by
  induction n using Nat.strongRecOn with
  | _ n ih =>
    intro b hb
    by_cases h5 : 5 ≤ n
    · obtain ⟨k, rfl⟩ : ∃ k, n = k + 5 := ⟨n - 5, (Nat.sub_add_cancel h5).symm⟩
      have e : k + 5 - 5 = k := Nat.add_sub_cancel ..
      obtain ⟨i1, i2, i3⟩ := ih k (Nat.lt_add_of_pos_right (by decide)) (b % 2 ^ k) (Nat.mod_lt _ (Nat.two_pow_pos k))
      rw [emit_ge h5, e]
      refine ⟨fun x hx => ?_, ?_, ?_⟩
      · rcases List.mem_cons.1 hx with rfl | hx
        · exact ⟨_, sub5 hb, rfl⟩
        · exact i1 x hx
      · rw [Nat.add_mod_right]; exact i2
      · rw [List.length_cons, Nat.mul_add]; exact Nat.add_le_add_right i3 5
    · rw [emit_lt h5]
      refine ⟨fun x hx => (by cases hx), ?_, Nat.zero_le _⟩
      rw [Nat.mod_eq_of_lt (Nat.lt_of_not_le h5)]
      exact hb
theorem spellF_is : ∀ (Y : List Int) (n b : Nat), n < 5 → b < 2 ^ n → (∀ x ∈ Y, 0 ≤ x ∧ x ≤ 255) → (∀ x ∈ spellF n b Y, ∃ v, v < 32 ∧ x = lt32 v) ∧ (spellF n b Y).length ≤ 2 * Y.length + 1
  | [], n, b, hn, hb, _ => by
    rw [spellF]
    split
    · refine ⟨fun x hx => ?_, Nat.le_refl _⟩
      rw [List.mem_singleton.1 hx]
      exact ⟨_, up5 hb hn, rfl⟩
    · exact ⟨fun x hx => (by cases hx), Nat.zero_le _⟩
  | c :: t, n, b, hn, hb, hY => by
    have hc := hY c List.mem_cons_self
    obtain ⟨e1, e2, e3⟩ := emit_is (n + 8) (b * 256 + c.toNat) (up8 hb (by clear hb; omega))
    obtain ⟨i1, i2⟩ := spellF_is t ((n + 8) % 5) _ (Nat.mod_lt _ (by decide)) e2 (fun x hx => hY x (List.mem_cons_of_mem _ hx))
    rw [spellF]
    refine ⟨fun x hx => ?_, ?_⟩
    · rcases List.mem_append.1 hx with hx | hx
      · exact e1 x hx
      · exact i1 x hx
    · rw [List.length_append, List.length_cons]
      clear hb e2
      omega
theorem numB_ob (n : Nat) : ∀ x ∈ U.numB n, 0 ≤ x ∧ x ≤ 255 := fun x hx => by
  obtain ⟨t, h, rfl⟩ := List.mem_iff_getElem.1 hx
  have := U.numB_oct n t
  rw [List.getD_eq_getElem?_getD, List.getElem?_eq_getElem h] at this
  exact this
theorem cloudB_ob : ∀ (L : List Sn) (T : Nat → Int) (r : Int), ∀ x ∈ cloudB T r L, 0 ≤ x ∧ x ≤ 255
  | [], _, _, x, hx => by cases hx
  | s :: t, T, r, x, hx => by
    simp only [cloudB, List.mem_append] at hx
    rcases hx with h | h | h | h
    all_goals first
      | exact numB_ob _ x h
      | exact cloudB_ob t _ _ x h
theorem tokB_ob (c : Int) (P : Pst) : ∀ x ∈ tokB c P, 0 ≤ x ∧ x ≤ 255 := fun x hx => by
  simp only [tokB, pastB, vecB, List.mem_append, List.mem_flatMap] at hx
  rcases hx with h | h | ⟨y, _, h⟩ | h | h
  · exact numB_ob _ x h
  · exact numB_ob _ x h
  · exact numB_ob _ x h
  · exact numB_ob _ x h
  · exact cloudB_ob _ _ _ x h
theorem oc_of_ob {Z : List Int} (h : ∀ x ∈ Z, 0 ≤ x ∧ x ≤ 255) (t : Nat) : 0 ≤ Z.getD t 0 ∧ Z.getD t 0 ≤ 255 := by
  rw [List.getD_eq_getElem?_getD]
  by_cases ht : t < Z.length
  · rw [List.getElem?_eq_getElem ht]; exact h _ (List.getElem_mem ht)
  · rw [List.getElem?_eq_none (Nat.le_of_not_lt ht)]; exact ⟨by decide, by decide⟩
/-- the letters of a token without the check -/
def bodyF (c : Int) (P : Pst) : List Int := spellF 0 0 (tokB c P)
def textL (c : Int) (P : Pst) : List Int := bodyF c P ++ [ch37 (ckF 0 (bodyF c P))]
theorem bodyF_is (c : Int) (P : Pst) : (∀ x ∈ bodyF c P, ∃ v, v < 32 ∧ x = lt32 v) ∧ (bodyF c P).length ≤ 2 * (tokB c P).length + 1 := spellF_is _ 0 0 (by decide) (by decide) (tokB_ob c P)
theorem bodyF_val (c : Int) (P : Pst) (t : Nat) (ht : t < (bodyF c P).length) : 0 ≤ valF ((bodyF c P).getD t 0) := by
  rw [List.getD_eq_getElem?_getD, List.getElem?_eq_getElem ht]
  obtain ⟨v, hv, e⟩ := (bodyF_is c P).1 _ (List.getElem_mem ht)
  show 0 ≤ valF (bodyF c P)[t]
  rw [e, valF_lt32 v hv]
  omega
theorem tokB_len {c : Int} {P : Pst} (h : TokOk c P) (hc : c ≤ 1000000000) : (tokB c P).length ≤ 200000000005 := by
  have h1 := pastB_len h.2
  have h2 := nB_len hc
  simp only [tokB, List.length_append]
  omega
theorem ap_newF {w0 w w' : World} {ao bo : Option Addr} (N : U.NewB w0 w ao) (A : U.Ap w w' ao bo) : Below w0.heap.size w0 w' := N.1.grown A.grown N.1.size N.2
def TxtA (w w' : World) (e : Ending) (c : Int) (P : Pst) : Prop :=
  (¬ TokOk c P ∧ e = .returned (.tuple #[.string (ByteArray.mk #[]), .int .i64 1]) ∧ Below w.heap.size w w') ∨ (TokOk c P ∧ e = .returned (.tuple #[.string (strOfNums (textL c P)), .int .i64 0]) ∧ Below w.heap.size w w')
set_option maxRecDepth 100000 in
set_option maxHeartbeats 3200000 in
theorem text_any (c : Int) (p : Pv) (w : World) (hS : PSrc w p) : Calls Try.prog 34 #[ToV (mkT c p)] w fun e w' => TxtA w w' e c p.P := by
  have HX := hide (ToBox_new w (mkT c p))
  have HB := hide (below_new w (.cells (ToC (mkT c p)) 52))
  have HS := hide (hS.below HB.out)
  clear hS
  obtain ⟨wk, hwk⟩ : ∃ wk, w.alloc (.cells (ToC (mkT c p)) 52) = wk := ⟨_, rfl⟩
  obtain ⟨G, hG⟩ : ∃ G, w.heap.size = G := ⟨_, rfl⟩
  rw [hwk] at HX HB HS
  rw [hG] at HX
  have l0 := run_ldTo HX.out
  go_enter Try.func34, Try.ntmps34
  go_wp2_with fail
  clear hwk hG
  refine (tokPut_any c p _ HS.out).mono ?_
  rintro e w2 (⟨hn, rfl, b2⟩ | ⟨hy, bo, cc, rfl, hR, hN⟩)
  · have HN := hide hn
    have HB2 := hide (HB.out.trans (b2.mono HB.out.size))
    clear hn b2 l0 HX HB HS
    go_wp2_with fail
    go_ret2
    exact .inl ⟨HN.out, rfl, HB2.out⟩
  · have HY := hide hy
    have HR := hide hR
    have HB2 := hide (HB.out.trans (hN.1.mono HB.out.size))
    have hc : 0 ≤ c ∧ c < 64 := by have := hy.1; simp [isC] at this; exact this
    obtain ⟨m, hm⟩ : ∃ m, (tokB c p.P).length = m := ⟨_, rfl⟩
    have hml : m ≤ 200000000005 := by rw [← hm]; exact tokB_len hy (by omega)
    rw [hm] at HR
    rw [hm]
    have HM := hide hm
    clear hy hR hN l0 HX HB HS hm
    go_wp2_with fail
    refine (spell_any bo m cc _ _ HR.out.bs (oc_of_ob (tokB_ob c p.P)) (by omega)).mono ?_
    rintro e w3 ⟨bo3, n3, cc3, rfl, hR3, hN3⟩
    have hn3 := hR3.len
    have hn3' : n3 ≤ 400000000100 := by
      have h1 := (bodyF_is c p.P).2
      rw [HM.out] at h1
      have h2 : (bodyF c p.P).length = n3 := hn3
      omega
    have HR3 := hide hR3
    have HN3 := hide hN3
    have HL3 := hide hn3
    clear hR3 hN3 hn3
    go_wp2_with fail
    refine (checkLetter_any bo3 n3 cc3 _ _ HR3.out.bs (fun t ht => bodyF_val c p.P t (by rw [show (bodyF c p.P).length = n3 from HL3.out]; exact ht)) (by omega)).mono ?_
    rintro e w4 ⟨rfl, rfl⟩
    go_wp2_with (at_builtin; go_loud (refine U.BR.app1 HR3.out _ (by omega) rfl (.tmp 17) (.tmp 20) rfl rfl rfl ?_); intro ob5 qc5 wx hr5 ha5; have hst := hr5.bs.str; have HB5 := hide (HB2.out.trans ((ap_newF HN3.out ha5).mono HB2.out.size)); clear hr5 ha5)
    go_ret2
    exact .inr ⟨HY.out, rfl, HB5.out⟩
end Go.Proofs.Ytnghfnhpjdafmaa
