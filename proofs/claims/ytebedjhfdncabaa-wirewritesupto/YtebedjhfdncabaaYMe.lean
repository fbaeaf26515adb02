/- wire's writer: its calls. -/
import Derived.Test.YtebedjhfdncabaaYFr
namespace Go.Proofs.Ytebedjhfdncabaa
open Go.RowKit
variable {w w' w2 : World} {g : Nat}

/-- bytes that are read: a row, nil or not -/
structure BS (w : World) (ao : Option Addr) (m c : Nat) (Z : List Int) : Prop where
  len : Z.length = m
  nil : ao = none → m = 0 ∧ c = 0
  cell : ∀ ad, ao = some ad → ∀ t, t < m → w.cell? (ad.add t) = some (.int .u8 (Z.getD t 0))
theorem block_of_add (a : Addr) (n : Nat) : (a.add n).block = a.block := by unfold Addr.add; split <;> rfl
theorem BS.ap {so ao bo : Option Addr} {m c : Nat} {Y : List Int} (S : BS w so m c Y) (h : Ap w w' ao bo) (hne : ∀ k, blk so = some k → blk ao ≠ some k) : BS w' so m c Y :=
  ⟨S.len, S.nil, fun ad ha t ht => by
    have hc := S.cell ad ha t ht
    have hl := World.block_lt_of_cell? w _ hc
    rw [World.cell?_of_block (h.grown.block _ hl (fun e => hne ad.block (by rw [ha]; rfl) (by rw [← e, block_of_add])))]
    exact hc⟩
theorem BS.below {so : Option Addr} {m c : Nat} {Y : List Int} (S : BS w so m c Y) (hb : Below w.heap.size w w') : BS w' so m c Y :=
  ⟨S.len, S.nil, fun ad ha t ht => (hb.cell (World.block_lt_of_cell? w _ (S.cell ad ha t ht))).trans (S.cell ad ha t ht)⟩
theorem BR.bs {ao : Option Addr} {n cap : Nat} {Z : List Int} (h : BR w ao n cap Z) : BS w ao n cap Z := by
  have hl := h.len
  rcases h.2 with ⟨h0, h00⟩ | ⟨q, cap2, cur, hv, r⟩
  · simp only [Value.slice.injEq] at h0
    obtain ⟨rfl, e0, rfl⟩ := h0
    exact ⟨hl, fun _ => ⟨e0, rfl⟩, (fun ad h => by cases h)⟩
  · simp only [Value.slice.injEq, true_and] at hv
    obtain ⟨rfl, rfl⟩ := hv
    refine ⟨hl, fun h => (by cases h), fun ad ha t ht => ?_⟩
    obtain rfl := Option.some.inj ha
    have := h.cellAt t (by omega)
    rw [Addr.add_lit, Nat.zero_add, this, bcs_at Z t (by omega)]
theorem BR.appB {ao so : Option Addr} {n cap m c : Nat} {Z Y : List Int} (h : BR w ao n cap Z) (S : BS w so m c Y) (hb : n + m ≤ 140737488355328)
    {ops : Array Oper} {rest : List Oper} {o : Oper} {a : Act} {Q : Exit → Act → World → Prop} (hgd : o.guard = none) (s y : Operand) (ho : o.op = .call { callee := .builtin .append, args := #[s, y], argTypes := #[27, 27] })
    (hs : a.eval s = .slice ao n cap) (hy : a.eval y = .slice so m c)
    (hK : ∀ (bo : Option Addr) (cap2 : Nat) (w2 : World), BR w2 bo (n + m) cap2 (Z ++ Y) → Ap w w2 ao bo → wpList Try.prog ops Q rest (a.put o.dst (.slice bo (n + m) cap2)) w2) :
    wpList Try.prog ops Q (o :: rest) a w := by
  cases so with
  | none =>
    obtain ⟨i0, hi, hz0, hz1, hz2⟩ := info_parts infoB
    obtain ⟨rfl, rfl⟩ := S.nil rfl
    have e := List.eq_nil_of_length_eq_zero S.len
    subst e
    refine wpList_append_own_none hgd s y 27 ho 0 5 i0 1 Try.underlying27 hi _ n (bcs Z) hs h hy ?_
    have := hK ao cap w (by rw [List.append_nil]; exact h) (Ap.refl _ _)
    exact this
  | some ad => exact h.app ad m c S.len (S.cell ad rfl) hb hgd s y ho hs hy hK
theorem frameB_any (ao : Option Addr) (n c : Nat) (Z : List Int) (so : Option Addr) (m d : Nat) (Y : List Int) (w : World) (S : BR w ao n c Z) (B : BS w so m d Y) (hne : ∀ k, blk so = some k → blk ao ≠ some k) (hn : n + m ≤ 140737488355000) :
    Calls Try.prog 18 #[.slice ao n c, .slice so m d] w fun r w' => ∃ bo l cc, r = .returned (.slice bo l cc) ∧ BR w' bo l cc (Z ++ (numB m ++ Y)) ∧ Ap w w' ao bo := by
  have HS := hide S
  have HN := hide hn
  have HY := hide B
  have HE := hide hne
  clear S hn B hne
  go_enter Try.func18, Try.ntmps18
  go_wp2_with fail
  refine (appendNum_any ao n c Z m w HS.out (by have := HN.out; omega) (by have := HN.out; omega)).mono ?_
  rintro r w2 ⟨bo, cc, rfl, B2, A2⟩
  have HL : Hid (n + (numB m).length + m ≤ 140737488355328) := by show _ ≤ _; have := HN.out; have := numB_nine (n := m) (by omega); omega
  have HB := hide B2
  have HA := hide A2
  have HY2 := hide (HY.out.ap A2 HE.out)
  clear B2 A2
  go_wp2_with (at_builtin; refine HB.out.appB HY2.out HL.out rfl (.tmp 8) (.tmp 9) rfl rfl rfl ?_; intro b5 c5 w5 S5 A5; have HS5 := hide S5; have HA5 := hide (HA.out.trans A5); clear S5 A5)
  go_ret
  refine ⟨b5, _, c5, rfl, ?_, HA5.out⟩
  rw [← List.append_assoc]
  exact HS5.out
theorem wtext_any (ao : Option Addr) (n cap : Nat) (Z : List Int) (sp : Bool) (s : ByteArray) (w : World) (W : Wr w g ao n cap Z sp) (hao : sp = true → ao = none) (hn : n + s.size ≤ 140737488355000) :
    Calls Try.prog 14 #[ptr g, .string s] w fun r w' => r = .returned (.tuple #[]) ∧ Puts w w' g ao Z (numB s.size ++ strB s) sp := by
  have HW := hide W
  have x0 := W.c0
  have HA := hide hao
  have HN := hide hn
  clear W hao hn
  go_enter Try.func14, Try.ntmps14
  go_wp2_with fail
  refine (frameS_any ao n cap Z s w HW.out.row HN.out).mono ?_
  rintro r w2 ⟨bo, m, cc, rfl, B2, A2⟩
  have HB := hide B2
  have HP := hide A2
  clear B2 A2 x0
  go_wp2_with fail
  refine (hold_any HW.out HA.out HP.out HB.out).mono ?_
  rintro r w3 ⟨rfl, P3⟩
  have HF := hide P3
  clear P3
  go_wp2_with fail
  go_end0
  exact ⟨rfl, HF.out⟩
theorem wframe_any (ao : Option Addr) (n cap : Nat) (Z : List Int) (sp : Bool) (so : Option Addr) (m d : Nat) (Y : List Int) (w : World) (W : Wr w g ao n cap Z sp) (hao : sp = true → ao = none) (B : BS w so m d Y) (hne : ∀ k, blk so = some k → blk ao ≠ some k) (hn : n + m ≤ 140737488355000) :
    Calls Try.prog 15 #[ptr g, .slice so m d] w fun r w' => r = .returned (.tuple #[]) ∧ Puts w w' g ao Z (numB m ++ Y) sp := by
  have HW := hide W
  have x0 := W.c0
  have HA := hide hao
  have HN := hide hn
  have HY := hide B
  have HE := hide hne
  clear W hao hn B hne
  go_enter Try.func15, Try.ntmps15
  go_wp2_with fail
  refine (frameB_any ao n cap Z so m d Y w HW.out.row HY.out HE.out HN.out).mono ?_
  rintro r w2 ⟨bo, m, cc, rfl, B2, A2⟩
  have HB := hide B2
  have HP := hide A2
  clear B2 A2 x0
  go_wp2_with fail
  refine (hold_any HW.out HA.out HP.out HB.out).mono ?_
  rintro r w3 ⟨rfl, P3⟩
  have HF := hide P3
  clear P3
  go_wp2_with fail
  go_end0
  exact ⟨rfl, HF.out⟩
/-- Flag -/
def flagB (b : Bool) : Int := if b then 1 else 0
theorem wflag_any (ao : Option Addr) (n cap : Nat) (Z : List Int) (sp : Bool) (b : Bool) (w : World) (W : Wr w g ao n cap Z sp) (hao : sp = true → ao = none) (hn : n ≤ 140737488355000) :
    Calls Try.prog 13 #[ptr g, .bool b] w fun r w' => r = .returned (.tuple #[]) ∧ Puts w w' g ao Z [flagB b] sp := by
  have HW := hide W
  have x0 := W.c0
  have HA := hide hao
  have HN : Hid (n + 1 ≤ 140737488355328) := by show _ ≤ _; omega
  clear W hao hn
  cases b with
  | true =>
    go_enter Try.func13, Try.ntmps13
    go_wp2_with (at_builtin; refine HW.out.row.app1 1 HN.out rfl (.tmp 10) (.tmp 12) rfl rfl rfl ?_; intro b5 c5 w5 S5 A5; have HB := hide S5; have HP := hide A5; clear S5 A5 x0)
    refine (hold_any HW.out HA.out HP.out HB.out).mono ?_
    rintro r w3 ⟨rfl, P3⟩
    have HF := hide P3
    clear P3
    go_wp2_with fail
    go_end0
    exact ⟨rfl, HF.out⟩
  | false =>
    go_enter Try.func13, Try.ntmps13
    go_wp2_with (at_builtin; refine HW.out.row.app1 0 HN.out rfl (.tmp 10) (.tmp 12) rfl rfl rfl ?_; intro b5 c5 w5 S5 A5; have HB := hide S5; have HP := hide A5; clear S5 A5 x0)
    refine (hold_any HW.out HA.out HP.out HB.out).mono ?_
    rintro r w3 ⟨rfl, P3⟩
    have HF := hide P3
    clear P3
    go_wp2_with fail
    go_end0
    exact ⟨rfl, HF.out⟩
end Go.Proofs.Ytebedjhfdncabaa
