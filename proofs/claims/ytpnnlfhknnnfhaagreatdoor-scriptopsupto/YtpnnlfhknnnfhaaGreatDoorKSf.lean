/- A byte that stands for itself; bytes appended. -/
import Derived.Test.YtpnnlfhknnnfhaaGreatDoorJPd
import Derived.OrdersHeld
namespace Go.Proofs.YtpnnlfhknnnfhaaGreatDoor
open Go.RowKit T Y
variable {w w' w2 : World} {g : Nat}

theorem isSelf_any (c : UInt8) (w : World) : Calls Tryz.prog 46 #[.int .u8 (c.toNat : Int)] w fun e w' => e = .returned (.bool (selfB c)) ∧ w' = w := by
  have hM : selfB c = (decide (33 ≤ (c.toNat : Int)) && decide ((c.toNat : Int) ≤ 126) && ((c.toNat : Int) != 34) && ((c.toNat : Int) != 92)) := rfl
  by_cases h1 : 33 ≤ (c.toNat : Int)
  · by_cases h2 : (c.toNat : Int) ≤ 126
    · rw [decide_eq_true h1, decide_eq_true h2, Bool.true_and, Bool.true_and] at hM
      cases h3 : ((c.toNat : Int) != 34)
      · rw [h3, Bool.false_and] at hM
        have HM := hide hM
        clear hM
        go_enter Tryz.func46, Tryz.ntmps46
        go_wp2
        go_ret
        exact ⟨ret_bool HM.out.symm, rfl⟩
      · rw [h3, Bool.true_and] at hM
        have HM := hide hM
        clear hM
        go_enter Tryz.func46, Tryz.ntmps46
        go_wp2
        go_ret
        exact ⟨ret_bool HM.out.symm, rfl⟩
    · rw [decide_eq_false h2, Bool.and_false, Bool.false_and, Bool.false_and] at hM
      have HM := hide hM
      clear hM
      go_enter Tryz.func46, Tryz.ntmps46
      go_wp2
      go_ret
      exact ⟨ret_bool HM.out.symm, rfl⟩
  · rw [decide_eq_false h1, Bool.false_and, Bool.false_and, Bool.false_and] at hM
    have HM := hide hM
    clear hM
    go_enter Tryz.func46, Tryz.ntmps46
    go_wp2
    go_ret
    exact ⟨ret_bool HM.out.symm, rfl⟩
theorem hex_at (n : Nat) (h : n < 16) : ((⟨#[48, 49, 50, 51, 52, 53, 54, 55, 56, 57, 97, 98, 99, 100, 101, 102]⟩ : ByteArray)[n]'h) = hx n := by
  have : ∀ n (h : n < 16), ((⟨#[48, 49, 50, 51, 52, 53, 54, 55, 56, 57, 97, 98, 99, 100, 101, 102]⟩ : ByteArray)[n]'h) = hx n := by decide
  exact this n h
theorem nI_four (Z : List Int) (a : List UInt8) (x y : UInt8) : Z ++ nI ([34] ++ (a ++ [92, 120, x, y])) = Z ++ nI ([34] ++ a) ++ [92, 120, (x.toNat : Int), (y.toNat : Int)] := by
  rw [← List.append_assoc, nI_app, List.append_assoc]
  rfl
theorem nI_one (Z : List Int) (a : List UInt8) (x : UInt8) : Z ++ nI (a ++ [x]) = Z ++ nI a ++ [(x.toNat : Int)] := by
  rw [nI_app, List.append_assoc]
  rfl
theorem infoU8 : (Tryz.prog.info? 5).map (fun i => (i.zero, i.size, i.bytes)) = some (some (.int .u8 0), 1, 1) := by kernel_rfl
theorem runsL {ao : Option Addr} {n c m : Nat} {Z L : List Int} {cs : Array Value} (h : BR w ao n c Z) (hm : L.length = m) (hcs : cs.toList = bcs L) (hb : n + m ≤ 140737488355328) (ty : TypeId) :
    ∃ bo c2 w2, (Builtin.append_ #[56, 56] ty #[.slice ao n c, .slice (some ⟨w.heap.size, 0, none⟩) m m]).run Tryz.prog (w.alloc (.cells cs 5)) = .ok (.slice bo (n + m) c2) w2 ∧ BR w2 bo (n + m) c2 (Z ++ L) ∧ Ap w w2 ao bo := by
  obtain ⟨i0, hi, hz0, hz1, hz2⟩ := info_parts infoU8
  have hk : BR (w.alloc (.cells cs 5)) ao n c Z := h.new _
  obtain ⟨v', w2, hrun, hown, hgrow, hnil, hat⟩ := run_append_own_at (P := Tryz.prog) (w.alloc (.cells cs 5)) 0 56 ty 5 i0 (.int .u8 0) 1 1 Tryz.underlying56 hi hz0 hz1 hz2 rfl (by decide) (.slice ao n c) n (bcs Z) hk ⟨w.heap.size, 0, none⟩ m m (bcs L) (by rw [bcs_length, hm, Nat.mul_one]) (fun j u hj => by
    rw [Addr.add_lit, Nat.zero_add, World.cell?_alloc_new]
    rw [← hcs] at hj
    simpa using hj) (bcs_one L) (by unfold maxLen; omega) (by omega) (Nat.zero_le _)
  rw [← bcs_append] at hown
  obtain ⟨bo, c2, rfl, hP⟩ := BR.out hown
  rw [ownBlock_blk] at hgrow
  rw [ownBlock_blk, ownBlock_blk] at hat
  refine ⟨bo, c2, w2, hrun, hP, (Ap.new w _ ao).trans ⟨hgrow, ?_⟩⟩
  rcases hat with e | e
  · exact Or.inl e
  · exact Or.inr ⟨_, e, Nat.le_refl _⟩
theorem step_appB {W : World} {ops : Array Oper} {o : Oper} {a : Act} {K : Act → World → Prop} {Q : Exit → Act → World → Prop} {E : Prop} {v1 v2 v' : Value} {w2 : World} (hgd : o.guard = none) (s x : Operand) (ho : o.op = .call { callee := .builtin .append, args := #[s, x], argTypes := #[56, 56] })
    (hs : a.eval s = v1) (hx : a.eval x = v2) (hrun : (Builtin.append_ #[56, 56] o.type #[v1, v2]).run Tryz.prog W = .ok v' w2) (hK : K (a.put o.dst v') w2) :
    if Region.wanted o (yielded ops a.tmps) = true then Oper.wp Tryz.prog o a W K Q else E := by
  have hw : Region.wanted o (yielded ops a.tmps) = true := by simp [Region.wanted, hgd]
  rw [if_pos hw]
  unfold Oper.wp
  simp [execOp, ho, resolve, invoke, builtin, hs, hx, hrun, Result.andThen]
  exact hK
theorem take_snocB (s : ByteArray) (k : Nat) (h : k < s.size) : s.data.toList.take (k + 1) = s.data.toList.take k ++ [s[k]] := by
  rw [List.take_succ_eq_append_getElem (by simpa using h)]; rfl
theorem qb_yes {c : UInt8} (h : selfB c = true) : qb c = [c] := by unfold qb; rw [h]; rfl
theorem qb_no {c : UInt8} (h : selfB c = false) : qb c = [92, 120, hx (c.toNat / 16), hx (c.toNat % 16)] := by unfold qb; rw [h]; rfl
end Go.Proofs.YtpnnlfhknnnfhaaGreatDoor
