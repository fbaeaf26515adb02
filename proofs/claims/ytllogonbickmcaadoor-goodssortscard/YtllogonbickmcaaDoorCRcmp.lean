/- The reference's Compare: its contract. -/
import Derived.Test.YtllogonbickmcaaDoorCRef
namespace Go.Proofs.YtllogonbickmcaaDoor
open Go.RowKit

def lexF (a b : ByteArray) : Int := lexC cmpP (pieces a.data.toList) (pieces b.data.toList)
def Rel (a b : ByteArray) (i j : Nat) : Prop := lexC cmpP (pieces (a.data.toList.drop i)) (pieces (b.data.toList.drop j)) = lexF a b
theorem cmpF_lex (a b : ByteArray) : cmpF a.data.toList b.data.toList = if lexF a b = 0 then textC a.data.toList b.data.toList else lexF a b := rfl
def pc (s : ByteArray) (i : Nat) : List UInt8 := (s.data.toList.drop i).take (fpN (s.data.toList.drop i))
theorem rel_step (a b : ByteArray) (i j : Nat) (hi : i < a.size) (hj : j < b.size) (h : Rel a b i j) :
    lexF a b = if cmpP (pc a i) (pc b j) = 0 then lexC cmpP (pieces (a.data.toList.drop (i + fpN (a.data.toList.drop i)))) (pieces (b.data.toList.drop (j + fpN (b.data.toList.drop j)))) else cmpP (pc a i) (pc b j) := by
  unfold Rel at h
  rw [pieces_cons (a.data.toList.drop i) (by rw [List.length_drop, len_at]; omega), pieces_cons (b.data.toList.drop j) (by rw [List.length_drop, len_at]; omega), List.drop_drop, List.drop_drop] at h
  exact h.symm
theorem pc_head (s : ByteArray) (i : Nat) (hi : i < s.size) : (pc s i).getD 0 0 = s[i] := by
  have h1 := fpN_pos (s.data.toList.drop i)
  unfold pc
  rw [List.getD, List.getElem?_take, if_pos (by omega), List.getElem?_drop, Nat.add_zero]
  exact getD_at s i hi
theorem pc_run (s : ByteArray) (i : Nat) (hi : i < s.size) (hd : dig s[i] = true) : pc s i = runAt s i ∧ fpN (s.data.toList.drop i) = (runAt s i).length := by
  have e : s.data.toList.drop i = s[i] :: s.data.toList.drop (i + 1) := by rw [List.drop_eq_getElem_cons (by rw [len_at]; omega)]; rfl
  have h1 : 1 ≤ (runAt s i).length := by unfold runAt; rw [e, List.takeWhile_cons_of_pos hd]; simp
  have h2 : fpN (s.data.toList.drop i) = (runAt s i).length := by unfold fpN; show max (runAt s i).length 1 = _; omega
  refine ⟨?_, h2⟩
  unfold pc; rw [h2]
  exact (List.prefix_iff_eq_take.1 (List.takeWhile_prefix dig)).symm
theorem pc_one (s : ByteArray) (i : Nat) (hi : i < s.size) (hd : dig s[i] = false) : fpN (s.data.toList.drop i) = 1 := by
  have e : s.data.toList.drop i = s[i] :: s.data.toList.drop (i + 1) := by rw [List.drop_eq_getElem_cons (by rw [len_at]; omega)]; rfl
  unfold fpN; rw [e, List.takeWhile_cons_of_neg (by rw [hd]; simp)]; rfl
theorem both_dig (a b : ByteArray) (i j : Nat) (hi : i < a.size) (hj : j < b.size) (h : Rel a b i j) (da : dig a[i] = true) (db : dig b[j] = true) :
    lexF a b = if (if sgn (strip (runAt a i)).length (strip (runAt b j)).length = 0 then textC (strip (runAt a i)) (strip (runAt b j)) else sgn (strip (runAt a i)).length (strip (runAt b j)).length) = 0 then
      lexC cmpP (pieces (a.data.toList.drop (i + (runAt a i).length))) (pieces (b.data.toList.drop (j + (runAt b j).length)))
      else (if sgn (strip (runAt a i)).length (strip (runAt b j)).length = 0 then textC (strip (runAt a i)) (strip (runAt b j)) else sgn (strip (runAt a i)).length (strip (runAt b j)).length) := by
  have hs := rel_step a b i j hi hj h
  have ha := pc_head a i hi
  have hb := pc_head b j hj
  obtain ⟨p1, p2⟩ := pc_run a i hi da
  obtain ⟨q1, q2⟩ := pc_run b j hj db
  have e : cmpP (pc a i) (pc b j) = if sgn (strip (runAt a i)).length (strip (runAt b j)).length = 0 then textC (strip (runAt a i)) (strip (runAt b j)) else sgn (strip (runAt a i)).length (strip (runAt b j)).length := by
    unfold cmpP
    rw [ha, hb, da, db, if_pos (by rfl), p1, q1]; rfl
  rw [e, p2, q2] at hs
  exact hs
theorem not_both (a b : ByteArray) (i j : Nat) (hi : i < a.size) (hj : j < b.size) (h : Rel a b i j) (hd : (dig a[i] && dig b[j]) = false) :
    (a[i].toNat < b[j].toNat → lexF a b = -1) ∧ (b[j].toNat < a[i].toNat → lexF a b = 1) ∧ (a[i].toNat = b[j].toNat → Rel a b (i + 1) (j + 1)) := by
  have hs := rel_step a b i j hi hj h
  have e : cmpP (pc a i) (pc b j) = byteC a[i] b[j] := by
    unfold cmpP
    rw [pc_head a i hi, pc_head b j hj, hd, if_neg (by simp)]
  rw [e] at hs
  have eb : byteC a[i] b[j] = sgn a[i].toNat b[j].toNat := rfl
  refine ⟨fun hl => ?_, fun hl => ?_, fun hl => ?_⟩
  · rw [hs, eb, show sgn a[i].toNat b[j].toNat = -1 from by unfold sgn; rw [if_pos hl], if_neg (by omega)]
  · rw [hs, eb, show sgn a[i].toNat b[j].toNat = 1 from by unfold sgn; rw [if_neg (by omega), if_pos hl], if_neg (by omega)]
  · have he : a[i] = b[j] := UInt8.toNat.inj hl
    have da : dig a[i] = false := by rw [he] at hd ⊢; simpa using hd
    have db : dig b[j] = false := by rw [← he]; exact da
    rw [eb, show sgn a[i].toNat b[j].toNat = 0 from by unfold sgn; rw [if_neg (by omega), if_neg (by omega)], if_pos rfl, pc_one a i hi da, pc_one b j hj db] at hs
    exact hs.symm
theorem run_bd (s : ByteArray) (i : Nat) (hi : i < s.size) (hd : dig s[i] = true) : 1 ≤ (runAt s i).length ∧ i + (runAt s i).length ≤ s.size := by
  have e : s.data.toList.drop i = s[i] :: s.data.toList.drop (i + 1) := by rw [List.drop_eq_getElem_cons (by rw [len_at]; omega)]; rfl
  have h1 : 1 ≤ (runAt s i).length := by unfold runAt; rw [e, List.takeWhile_cons_of_pos hd]; simp
  have h2 : (runAt s i).length ≤ (s.data.toList.drop i).length := (List.takeWhile_sublist dig).length_le
  rw [List.length_drop, len_at] at h2
  omega
theorem at_end (a b : ByteArray) (i j : Nat) (h : Rel a b i j) (he : i = a.size ∨ j = b.size) : lexF a b = sgn (a.size - i) (b.size - j) := by
  unfold Rel at h
  rw [← h, ends _ _ (by rw [List.length_drop, List.length_drop, len_at, len_at]; omega), List.length_drop, List.length_drop, len_at, len_at]

set_option maxRecDepth 100000 in
set_option maxHeartbeats 3000000 in
theorem refCompare_any (a b : ByteArray) (w : World) (ha : a.size ≤ maxLen) (hb : b.size ≤ maxLen) :
    Calls Tryd.prog 10 #[.string a, .string b] w fun e w' => e = .returned (.int .i64 (cmpF a.data.toList b.data.toList)) ∧ Below w.heap.size w w' := by
  have HM1 := hide ha
  have HM2 := hide hb
  have HF := hide (cmpF_lex a b)
  unfold maxLen at ha hb
  go_enter Tryd.func10, Tryd.ntmps10
  go_wp2
  go_loopw [5, 6] (fun u v wr => ∃ i j : Nat, i ≤ a.size ∧ j ≤ b.size ∧ u = .int .i64 i ∧ v = .int .i64 j ∧ Hid (Rel a b i j) ∧ Below w.heap.size w wr) (fun u v _ => (a.size - (intOf u).toNat) + (b.size - (intOf v).toNat))
  case atStart => exact ⟨0, 0, Nat.zero_le _, Nat.zero_le _, rfl, rfl, by show lexC _ _ _ = _; rfl, Below.refl _ _⟩
  case round =>
    obtain ⟨i, j, hi, hj, rfl, rfl, HR, hw⟩ := hrel
    by_cases hia : i < a.size
    · by_cases hjb : j < b.size
      · obtain ⟨x, Hx⟩ : ∃ x : Bool, Hid (dig a[i] = x) := ⟨dig a[i], rfl⟩
        obtain ⟨y, Hy⟩ : ∃ y : Bool, Hid (dig b[j] = y) := ⟨dig b[j], rfl⟩
        cases x with
        | true =>
          go_wp2_with fail
          refine (digit_any a[i] _).mono ?_
          rintro e w1 ⟨rfl, rfl⟩
          rw [Hx.out]
          go_wp2_with fail
          refine (digit_any b[j] _).mono ?_
          rintro e w1 ⟨rfl, rfl⟩
          rw [Hy.out]
          cases y with
          | true =>
            have HB := hide (both_dig a b i j hia hjb HR.out Hx.out Hy.out)
            go_wp2_with fail
            refine (number_any a i _ HM1.out hi).mono ?_
            rintro e w1 ⟨t1, rfl, h1, rfl⟩
            go_wp2_with fail
            refine (number_any b j _ HM2.out hj).mono ?_
            rintro e w1 ⟨t2, rfl, h2, rfl⟩
            have l1 : (strip (runAt a i)).length = t1.size := by rw [← h1, len_at]
            have l2 : (strip (runAt b j)).length = t2.size := by rw [← h2, len_at]
            rw [l1, l2, ← h1, ← h2] at HB
            obtain ⟨r1, hr1⟩ : ∃ r, (runAt a i).length = r := ⟨_, rfl⟩
            obtain ⟨r2, hr2⟩ : ∃ r, (runAt b j).length = r := ⟨_, rfl⟩
            rw [hr1, hr2] at HB ⊢
            have hb1 : 1 ≤ r1 ∧ i + r1 ≤ a.size := by rw [← hr1]; exact run_bd a i hia Hx.out
            have hb2 : 1 ≤ r2 ∧ j + r2 ≤ b.size := by rw [← hr2]; exact run_bd b j hjb Hy.out
            clear hr1 hr2 l1 l2 h1 h2
            rcases Nat.lt_trichotomy t1.size t2.size with hlt | hlt | hlt
            · have HC : Hid ((-1 : Int) = cmpF a.data.toList b.data.toList) := by
                show _ = _
                rw [HF.out, HB.out, show sgn t1.size t2.size = -1 from by unfold sgn; rw [if_pos hlt]]; rfl
              have hlt' : (t1.size : Int) < t2.size := by omega
              go_wp2
              go_ret
              exact ⟨ret_int HC.out, hw⟩
            · have hsg : sgn t1.size t2.size = 0 := by unfold sgn; rw [if_neg (by omega), if_neg (by omega)]
              rw [hsg, if_pos rfl] at HB
              obtain ⟨o, Ho⟩ : ∃ o, Hid (textC t1.data.toList t2.data.toList = o) := ⟨textC t1.data.toList t2.data.toList, rfl⟩
              rw [Ho.out] at HB
              go_wp2_with fail
              refine (bytesOrder_any t1 t2 _).mono ?_
              rintro e w1 ⟨rfl, rfl⟩
              rw [Ho.out]
              by_cases ho : o = 0
              · subst ho
                rw [if_pos rfl] at HB
                go_wp2
                exact ⟨⟨i + r1, j + r2, by omega, by omega, by go_num, by go_num, HB.out.symm, hw⟩, by simp [intOf]; omega⟩
              · rw [if_neg ho] at HB
                have HC : Hid (o = cmpF a.data.toList b.data.toList) := by
                  show _ = _
                  rw [HF.out, HB.out, if_neg ho]
                have ho' : (o == 0) = false := by simpa using ho
                have ho2 : (o != 0) = true := by rw [bne, ho']; rfl
                clear ho
                go_wp2
                go_ret
                exact ⟨ret_int HC.out, hw⟩
            · have HC : Hid ((1 : Int) = cmpF a.data.toList b.data.toList) := by
                show _ = _
                rw [HF.out, HB.out, show sgn t1.size t2.size = 1 from by unfold sgn; rw [if_neg (by omega), if_pos hlt]]; rfl
              have hlt' : (t2.size : Int) < t1.size := by omega
              have hlt2 : ¬ (t1.size : Int) < t2.size := by omega
              go_wp2
              go_ret
              exact ⟨ret_int HC.out, hw⟩
          | false =>
            obtain ⟨nb1, nb2, nb3⟩ := not_both a b i j hia hjb HR.out (by rw [Hx.out, Hy.out]; rfl)
            have N1 := hide nb1
            have N2 := hide nb2
            have N3 := hide nb3
            clear nb1 nb2 nb3
            go_wp2
            rcases Nat.lt_trichotomy a[i].toNat b[j].toNat with hlt | hlt | hlt
            · have HC : Hid ((-1 : Int) = cmpF a.data.toList b.data.toList) := by show _ = _; rw [HF.out, N1.out hlt]; rfl
              have hlt' : (a[i].toNat : Int) < (b[j].toNat : Int) := by omega
              go_quiet (fail)
              go_wp2
              go_ret
              exact ⟨ret_int HC.out, hw.trans (below_drewN _ _ _)⟩
            · have HC := hide (N3.out hlt)
              have hlt' : ¬ (a[i].toNat : Int) < (b[j].toNat : Int) := by omega
              have hlt2 : ¬ (b[j].toNat : Int) < (a[i].toNat : Int) := by omega
              go_quiet (fail)
              go_wp2
              go_quiet (fail)
              go_wp2
              go_roundw
              case rel => exact ⟨i + 1, j + 1, by omega, by omega, by go_num, by go_num, HC, ⟨hw.os, hw.tape, hw.output, hw.size, hw.block⟩⟩
              case measure => simp [intOf]; omega
            · have HC : Hid ((1 : Int) = cmpF a.data.toList b.data.toList) := by show _ = _; rw [HF.out, N2.out hlt]; rfl
              have hlt' : ¬ (a[i].toNat : Int) < (b[j].toNat : Int) := by omega
              have hlt2 : (b[j].toNat : Int) < (a[i].toNat : Int) := by omega
              go_quiet (fail)
              go_wp2
              go_quiet (fail)
              go_wp2
              go_ret
              exact ⟨ret_int HC.out, ⟨hw.os, hw.tape, hw.output, hw.size, hw.block⟩⟩
        | false =>
          go_wp2_with fail
          refine (digit_any a[i] _).mono ?_
          rintro e w1 ⟨rfl, rfl⟩
          rw [Hx.out]
          obtain ⟨nb1, nb2, nb3⟩ := not_both a b i j hia hjb HR.out (by rw [Hx.out]; rfl)
          have N1 := hide nb1
          have N2 := hide nb2
          have N3 := hide nb3
          clear nb1 nb2 nb3
          go_wp2
          rcases Nat.lt_trichotomy a[i].toNat b[j].toNat with hlt | hlt | hlt
          · have HC : Hid ((-1 : Int) = cmpF a.data.toList b.data.toList) := by show _ = _; rw [HF.out, N1.out hlt]; rfl
            have hlt' : (a[i].toNat : Int) < (b[j].toNat : Int) := by omega
            go_quiet (fail)
            go_wp2
            go_ret
            exact ⟨ret_int HC.out, hw.trans (below_drewN _ _ _)⟩
          · have HC := hide (N3.out hlt)
            have hlt' : ¬ (a[i].toNat : Int) < (b[j].toNat : Int) := by omega
            have hlt2 : ¬ (b[j].toNat : Int) < (a[i].toNat : Int) := by omega
            go_quiet (fail)
            go_wp2
            go_quiet (fail)
            go_wp2
            go_roundw
            case rel => exact ⟨i + 1, j + 1, by omega, by omega, by go_num, by go_num, HC, ⟨hw.os, hw.tape, hw.output, hw.size, hw.block⟩⟩
            case measure => simp [intOf]; omega
          · have HC : Hid ((1 : Int) = cmpF a.data.toList b.data.toList) := by show _ = _; rw [HF.out, N2.out hlt]; rfl
            have hlt' : ¬ (a[i].toNat : Int) < (b[j].toNat : Int) := by omega
            have hlt2 : (b[j].toNat : Int) < (a[i].toNat : Int) := by omega
            go_quiet (fail)
            go_wp2
            go_quiet (fail)
            go_wp2
            go_ret
            exact ⟨ret_int HC.out, ⟨hw.os, hw.tape, hw.output, hw.size, hw.block⟩⟩
      · have ej : j = b.size := by omega
        subst ej
        have HC : Hid ((1 : Int) = cmpF a.data.toList b.data.toList) := by
          show _ = _
          rw [HF.out, at_end a b i _ HR.out (Or.inr rfl), show sgn (a.size - i) (b.size - b.size) = 1 from by unfold sgn; rw [if_neg (by omega), if_pos (by omega)]]; rfl
        have hne : ¬ (i : Int) = a.size := by omega
        have hne2 : ((i : Int) == (a.size : Int)) = false := by simpa using hne
        go_wp2
        go_ret
        exact ⟨ret_int HC.out, hw⟩
    · have ei : i = a.size := by omega
      subst ei
      by_cases hjb : j < b.size
      · have HC : Hid ((-1 : Int) = cmpF a.data.toList b.data.toList) := by
          show _ = _
          rw [HF.out, at_end a b _ j HR.out (Or.inl rfl), show sgn (a.size - a.size) (b.size - j) = -1 from by unfold sgn; rw [if_pos (by omega)]]; rfl
        go_wp2
        go_ret
        exact ⟨ret_int HC.out, hw⟩
      · have ej : j = b.size := by omega
        subst ej
        have HC : Hid (textC a.data.toList b.data.toList = cmpF a.data.toList b.data.toList) := by
          show _ = _
          rw [HF.out, at_end a b _ _ HR.out (Or.inl rfl), show sgn (a.size - a.size) (b.size - b.size) = 0 from by unfold sgn; rw [if_neg (by omega), if_neg (by omega)], if_pos rfl]
        go_wp2_with (go_at_call 19; refine (bytesOrder_any a b _).mono ?_; rintro e w1 ⟨rfl, rfl⟩)
        go_ret
        exact ⟨ret_int HC.out, hw⟩
end Go.Proofs.YtllogonbickmcaaDoor
