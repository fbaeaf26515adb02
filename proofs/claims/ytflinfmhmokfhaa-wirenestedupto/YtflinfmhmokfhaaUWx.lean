/- The writer's Text and Flag. -/
import Derived.Test.YtflinfmhmokfhaaUWv
import Derived.Lib.AppendStr
namespace Go.Proofs.Ytflinfmhmokfhaa
open Go.RowKit
variable {w w' w2 : World} {g : Nat}

/-- where a text's bytes go: to the row's block, or to a new one -/
theorem str_at (w : World) (ty : TypeId) (v : Value) (n : Nat) (xs : List Value) (hown : w.ownsRow 0 5 1 v n xs) (s : ByteArray) (hb : n + s.size ≤ 140737488355328) :
    ∃ v' w', (Builtin.append_ #[22, 9] ty #[v, .string s]).run Try.prog w = .ok v' w' ∧ (v'.ownBlock = v.ownBlock ∨ v'.ownBlock = some w.heap.size) := by
  obtain ⟨i0, hi, hz0, hz1, hz2⟩ := info_parts infoB
  rcases hown.2 with ⟨rfl, rfl⟩ | ⟨g, cap, cur, rfl, hbg, hg, hnc, hcm, hcs, htake⟩
  · by_cases hm : s.size = 0
    · obtain ⟨v', w', hr, -, -, h4⟩ := Lib.run_append_own_string (P := Try.prog) w 0 22 9 ty 5 i0 Try.underlying22 Try.underlying9 hi hz0 hz1 hz2 _ 0 xs hown s (by unfold maxLen; omega) hb (Nat.zero_le _)
      have e := h4.2 ⟨rfl, hm⟩
      subst e
      exact ⟨_, _, hr, Or.inl rfl⟩
    · have hr := run_append_nil_string (P := Try.prog) w 22 9 ty 5 i0 (.int .u8 0) Try.underlying22 Try.underlying9 hi hz0 s (by omega) (by omega) (by rw [hz2]; omega)
      exact ⟨_, _, hr, Or.inr rfl⟩
  · by_cases hroom : n + s.size ≤ cap
    · have hr := Lib.run_append_room_string (P := Try.prog) w 22 9 ty 5 i0 Try.underlying22 Try.underlying9 hi hz1 g n cap cur hg s hroom (by omega)
      exact ⟨_, _, hr, Or.inl rfl⟩
    · have holds : ∀ j u, xs[j]? = some u → w.cell? ((⟨g, 0, none⟩ : Addr).add j) = some u := hown.cells (g := g) rfl
      have hxl : xs.length = n := by simpa using hown.1
      have hr := Lib.run_append_grow_string (P := Try.prog) w 22 9 ty 5 i0 (.int .u8 0) Try.underlying22 Try.underlying9 hi hz0 ⟨g, 0, none⟩ n cap xs (by rw [hz1]; simpa using hxl) holds s (by omega) (by omega) (by rw [hz2]; exact growslice_fits (by omega) (by omega))
      exact ⟨_, _, hr, Or.inr rfl⟩
/-- a text's bytes -/
def strB (s : ByteArray) : List Int := s.data.toList.map fun b => (b.toNat : Int)
theorem strB_length (s : ByteArray) : (strB s).length = s.size := by rw [strB, List.length_map]; rfl
theorem strB_cells (s : ByteArray) : Lib.strCells s = bcs (strB s) := by simp [Lib.strCells, bcs, strB]
/-- an append of a text's bytes -/
theorem BR.appS {ao : Option Addr} {n cap : Nat} {Z : List Int} (h : BR w ao n cap Z) (t : ByteArray) (hb : n + t.size ≤ 140737488355328)
    {ops : Array Oper} {rest : List Oper} {o : Oper} {a : Act} {Q : Exit → Act → World → Prop} (hgd : o.guard = none) (s y : Operand) (ho : o.op = .call { callee := .builtin .append, args := #[s, y], argTypes := #[22, 9] })
    (hs : a.eval s = .slice ao n cap) (hy : a.eval y = .string t)
    (hK : ∀ (bo : Option Addr) (cap2 : Nat) (w2 : World), BR w2 bo (n + t.size) cap2 (Z ++ strB t) → Ap w w2 ao bo → wpList Try.prog ops Q rest (a.put o.dst (.slice bo (n + t.size) cap2)) w2) :
    wpList Try.prog ops Q (o :: rest) a w := by
  obtain ⟨i0, hi, hz0, hz1, hz2⟩ := info_parts infoB
  refine wpList_plain hgd fun K hK2 => ?_
  obtain ⟨v', w2, hr, h2, h3, h4⟩ := Lib.run_append_own_string (P := Try.prog) w 0 22 9 o.type 5 i0 Try.underlying22 Try.underlying9 hi hz0 hz1 hz2 _ n _ h t (by unfold maxLen; omega) hb (Nat.zero_le _)
  obtain ⟨v3, w3, hr3, hat⟩ := str_at w o.type _ n _ h t hb
  obtain ⟨rfl, rfl⟩ : v3 = v' ∧ w3 = w2 := by
    rw [hr] at hr3
    injection hr3 with e1 e2
    exact ⟨e1.symm, e2.symm⟩
  rw [strB_cells, ← bcs_append] at h2
  obtain ⟨bo, c2, rfl, hB⟩ := BR.out h2
  rw [ownBlock_blk] at h3
  rw [ownBlock_blk, ownBlock_blk] at hat
  unfold Oper.wp execOp
  simp only [ho, resolve, invoke, builtin, Sem.run_bind, Sem.run_pure, Result.andThen_ok, List.map_toArray, List.map_cons, List.map_nil, hs, hy, hr]
  refine hK2 _ _ (hK bo c2 w3 hB ⟨h3, ?_⟩)
  rcases hat with e | e
  · exact Or.inl e
  · exact Or.inr ⟨_, e, Nat.le_refl _⟩
theorem frameS_any (ao : Option Addr) (n c : Nat) (Z : List Int) (s : ByteArray) (w : World) (S : BR w ao n c Z) (hn : n + s.size ≤ 140737488355000) :
    Calls Try.prog 47 #[.slice ao n c, .string s] w fun r w' => ∃ bo m cc, r = .returned (.slice bo m cc) ∧ BR w' bo m cc (Z ++ (numB s.size ++ strB s)) ∧ Ap w w' ao bo := by
  have HS := hide S
  have HN := hide hn
  clear S hn
  go_enter Try.func47, Try.ntmps47
  go_wp2_with fail
  refine (appendNum_any ao n c Z s.size w HS.out (by have := HN.out; omega) (by have := HN.out; omega)).mono ?_
  rintro r w2 ⟨bo, cc, rfl, B2, A2⟩
  have HL : Hid (n + (numB s.size).length + s.size ≤ 140737488355328) := by show _ ≤ _; have := HN.out; have := numB_nine (n := s.size) (by omega); omega
  have HB := hide B2
  have HA := hide A2
  clear B2 A2
  go_wp2_with (at_builtin; refine HB.out.appS s HL.out rfl (.tmp 8) (.tmp 9) rfl rfl rfl ?_; intro b5 c5 w5 S5 A5; have HS5 := hide S5; have HA5 := hide (HA.out.trans A5); clear S5 A5)
  go_ret
  refine ⟨b5, _, c5, rfl, ?_, HA5.out⟩
  rw [← List.append_assoc]
  exact HS5.out

theorem wtext_any (ao : Option Addr) (n cap : Nat) (Z : List Int) (sp : Bool) (s : ByteArray) (w : World) (W : Wr w g ao n cap Z sp) (hao : sp = true → ao = none) (hn : n + s.size ≤ 140737488355000) :
    Calls Try.prog 34 #[ptr g, .string s] w fun r w' => r = .returned (.tuple #[]) ∧ Puts w w' g ao Z (numB s.size ++ strB s) sp := by
  have HW := hide W
  have x0 := W.c0
  have HA := hide hao
  have HN := hide hn
  clear W hao hn
  go_enter Try.func34, Try.ntmps34
  go_wp2_with fail
  refine (frameS_any ao n cap Z s w HW.out.row HN.out).mono ?_
  rintro r w2 ⟨bo, m, cc, rfl, B2, A2⟩
  have HB := hide B2
  have HP := hide A2
  clear B2 A2 x0
  go_wp2_with fail
  refine (hold_any HW.out HA.out HP.out HB.out).mono ?_
  rintro r w3 ⟨rfl, P3⟩
  have HF := hide P3
  clear P3
  go_wp2_with fail
  go_end0
  exact ⟨rfl, HF.out⟩
def flagB (b : Bool) : Int := if b then 1 else 0
theorem wflag_any (ao : Option Addr) (n cap : Nat) (Z : List Int) (sp : Bool) (b : Bool) (w : World) (W : Wr w g ao n cap Z sp) (hao : sp = true → ao = none) (hn : n ≤ 140737488355000) :
    Calls Try.prog 33 #[ptr g, .bool b] w fun r w' => r = .returned (.tuple #[]) ∧ Puts w w' g ao Z [flagB b] sp := by
  have HW := hide W
  have x0 := W.c0
  have HA := hide hao
  have HN : Hid (n + 1 ≤ 140737488355328) := by show _ ≤ _; omega
  clear W hao hn
  cases b with
  | true =>
    go_enter Try.func33, Try.ntmps33
    go_wp2_with (at_builtin; refine HW.out.row.app1 1 HN.out rfl (.tmp 10) (.tmp 12) rfl rfl rfl ?_; intro b5 c5 w5 S5 A5; have HB := hide S5; have HP := hide A5; clear S5 A5 x0)
    refine (hold_any HW.out HA.out HP.out HB.out).mono ?_
    rintro r w3 ⟨rfl, P3⟩
    have HF := hide P3
    clear P3
    go_wp2_with fail
    go_end0
    exact ⟨rfl, HF.out⟩
  | false =>
    go_enter Try.func33, Try.ntmps33
    go_wp2_with (at_builtin; refine HW.out.row.app1 0 HN.out rfl (.tmp 10) (.tmp 12) rfl rfl rfl ?_; intro b5 c5 w5 S5 A5; have HB := hide S5; have HP := hide A5; clear S5 A5 x0)
    refine (hold_any HW.out HA.out HP.out HB.out).mono ?_
    rintro r w3 ⟨rfl, P3⟩
    have HF := hide P3
    clear P3
    go_wp2_with fail
    go_end0
    exact ⟨rfl, HF.out⟩
end Go.Proofs.Ytflinfmhmokfhaa
