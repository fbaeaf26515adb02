/- Rows of bytes that are read; string(b), bytes.Clone, append([]byte.., b...). -/
import Derived.Test.YtflinfmhmokfhaaYBy
import Derived.Laws.BytesArg
import Derived.Lib.ConvBytes
namespace Go.Proofs.Ytflinfmhmokfhaa
open Go.RowKit
variable {w w' w2 : World} {g : Nat}

theorem below_drew1 (w : World) : Below w.heap.size w w.drew := ⟨rfl, rfl, rfl, Nat.le_refl _, fun _ _ => rfl⟩
theorem below_drewN (w : World) (n : Nat) : Below w.heap.size w (w.drewN n) := ⟨rfl, rfl, rfl, Nat.le_refl _, fun _ _ => rfl⟩
/-- bytes that are read: a row, nil or not -/
structure BS (w : World) (ao : Option Addr) (m c : Nat) (Z : List Int) : Prop where
  len : Z.length = m
  nil : ao = none → m = 0 ∧ c = 0
  cell : ∀ ad, ao = some ad → ∀ t, t < m → w.cell? (ad.add t) = some (.int .u8 (Z.getD t 0))
theorem block_of_add (a : Addr) (n : Nat) : (a.add n).block = a.block := by unfold Addr.add; split <;> rfl
theorem BS.ap {so ao bo : Option Addr} {m c : Nat} {Y : List Int} (S : BS w so m c Y) (h : Ap w w' ao bo) (hne : ∀ k, blk so = some k → blk ao ≠ some k) : BS w' so m c Y :=
  ⟨S.len, S.nil, fun ad ha t ht => by
    have hc := S.cell ad ha t ht
    have hl := World.block_lt_of_cell? w _ hc
    rw [World.cell?_of_block (h.grown.block _ hl (fun e => hne ad.block (by rw [ha]; rfl) (by rw [← e, block_of_add])))]
    exact hc⟩
theorem BS.below {so : Option Addr} {m c : Nat} {Y : List Int} (S : BS w so m c Y) (hb : Below w.heap.size w w') : BS w' so m c Y :=
  ⟨S.len, S.nil, fun ad ha t ht => (hb.cell (World.block_lt_of_cell? w _ (S.cell ad ha t ht))).trans (S.cell ad ha t ht)⟩
theorem BR.bs {ao : Option Addr} {n cap : Nat} {Z : List Int} (h : BR w ao n cap Z) : BS w ao n cap Z := by
  have hl := h.len
  rcases h.2 with ⟨h0, h00⟩ | ⟨q, cap2, cur, hv, r⟩
  · simp only [Value.slice.injEq] at h0
    obtain ⟨rfl, e0, rfl⟩ := h0
    exact ⟨hl, fun _ => ⟨e0, rfl⟩, (fun ad h => by cases h)⟩
  · simp only [Value.slice.injEq, true_and] at hv
    obtain ⟨rfl, rfl⟩ := hv
    refine ⟨hl, fun h => (by cases h), fun ad ha t ht => ?_⟩
    obtain rfl := Option.some.inj ha
    have := h.cellAt t (by omega)
    rw [Addr.add_lit, Nat.zero_add, this, bcs_at Z t (by omega)]
theorem BR.appB {ao so : Option Addr} {n cap m c : Nat} {Z Y : List Int} (h : BR w ao n cap Z) (S : BS w so m c Y) (hb : n + m ≤ 140737488355328)
    {ops : Array Oper} {rest : List Oper} {o : Oper} {a : Act} {Q : Exit → Act → World → Prop} (hgd : o.guard = none) (s y : Operand) (ho : o.op = .call { callee := .builtin .append, args := #[s, y], argTypes := #[22, 22] })
    (hs : a.eval s = .slice ao n cap) (hy : a.eval y = .slice so m c)
    (hK : ∀ (bo : Option Addr) (cap2 : Nat) (w2 : World), BR w2 bo (n + m) cap2 (Z ++ Y) → Ap w w2 ao bo → wpList Try.prog ops Q rest (a.put o.dst (.slice bo (n + m) cap2)) w2) :
    wpList Try.prog ops Q (o :: rest) a w := by
  cases so with
  | none =>
    obtain ⟨i0, hi, hz0, hz1, hz2⟩ := info_parts infoB
    obtain ⟨rfl, rfl⟩ := S.nil rfl
    have e := List.eq_nil_of_length_eq_zero S.len
    subst e
    refine wpList_append_own_none hgd s y 22 ho 0 5 i0 1 Try.underlying22 hi _ n (bcs Z) hs h hy ?_
    have := hK ao cap w (by rw [List.append_nil]; exact h) (Ap.refl _ _)
    exact this
  | some ad => exact h.app ad m c S.len (S.cell ad rfl) hb hgd s y ho hs hy hK
theorem BR.lit (w : World) : BR (w.alloc (.cells #[] 5)) (some ⟨w.heap.size, 0, none⟩) 0 0 [] :=
  ⟨by simp [bcs], .inr ⟨w.heap.size, 0, _, rfl, Nat.zero_le _, heap_alloc_new w _, Nat.le_refl _, by unfold maxLen; omega, by simp, by simp [bcs]⟩⟩
/-- new memory -/
def NewB (w w' : World) (bo : Option Addr) : Prop := Below w.heap.size w w' ∧ ∀ k, blk bo = some k → w.heap.size ≤ k
theorem Ap.fresh {o : Obj} {bo : Option Addr} (h : Ap (w.alloc o) w' (some ⟨w.heap.size, 0, none⟩) bo) : NewB w w' bo := by
  have hs := h.grown.size
  rw [World.size_alloc] at hs
  refine ⟨(below_new w o).trans ⟨h.grown.os, h.grown.tape, h.grown.output, h.grown.size, fun k hk => h.grown.block k (by rw [World.size_alloc]; omega) (fun e => ?_)⟩, fun k hk => ?_⟩
  · have : k = w.heap.size := Option.some.inj e
    omega
  · rcases h.lies with e | ⟨j, e, hj⟩
    · rw [e] at hk
      have : w.heap.size = k := Option.some.inj hk
      omega
    · rw [e] at hk
      have := Option.some.inj hk
      rw [World.size_alloc] at hj
      omega
theorem clone_any (so : Option Addr) (n c : Nat) (Z : List Int) (w : World) (S : BS w so n c Z) (hn : n ≤ 140737488355328) : Calls Try.prog 36 #[.slice so n c] w fun r w' => ∃ bo cc, r = .returned (.slice bo n cc) ∧ BR w' bo n cc Z ∧ NewB w w' bo := by
  have q32 : ∀ (w : World) (a : Option Addr) (n c n' c' : Nat), (binOp .eql 22 (.slice a n c) (.slice none n' c')).run Try.prog w = .ok (.bool a.isNone) w := fun w a n c n' c' => Lib.run_eql_slice_nil w _ _ a n c n' c' Try.underlying22
  cases so with
  | none =>
    obtain ⟨rfl, rfl⟩ := S.nil rfl
    have e := List.eq_nil_of_length_eq_zero S.len
    subst e
    go_enter Try.func36, Try.ntmps36
    go_wp2_with fail
    go_ret
    exact ⟨_, _, rfl, BR.nil _, Below.refl _ _, fun k hk => by cases hk⟩
  | some ad =>
    have HS := hide (S.below (below_new w (.cells #[] 5)))
    have HL := hide (BR.lit w)
    have HN : Hid (0 + n ≤ 140737488355328) := by show _ ≤ _; omega
    clear S hn
    go_enter Try.func36, Try.ntmps36
    go_wp2_with (at_builtin; refine HL.out.appB HS.out HN.out rfl (.tmp 5) (.tmp 6) rfl rfl rfl ?_; intro a5 c5 w5 S5 b5; rw [Nat.zero_add] at S5 ⊢; have HS5 := hide S5; have HB5 := hide b5; clear S5 b5)
    go_ret
    exact ⟨_, _, rfl, HS5.out, HB5.out.fresh⟩
theorem NewB.of_ap {bo : Option Addr} (h : Ap w w' none bo) : NewB w w' bo :=
  ⟨⟨h.grown.os, h.grown.tape, h.grown.output, h.grown.size, fun k hk => h.grown.block k hk (fun e => by cases e)⟩, fun k hk => by
    rcases h.lies with e | ⟨j, e, hj⟩
    · rw [e] at hk; cases hk
    · rw [e] at hk
      have := Option.some.inj hk
      omega⟩
theorem NewB.pre {bo : Option Addr} (hb : Below w.heap.size w w') (h : NewB w' w2 bo) : NewB w w2 bo :=
  ⟨hb.trans (h.1.mono hb.size), fun k hk => Nat.le_trans hb.size (h.2 k hk)⟩
theorem BR.below {ao : Option Addr} {n cap : Nat} {Z : List Int} (h : BR w ao n cap Z) (hb : Below w.heap.size w w') : BR w' ao n cap Z := h.keep fun k hk => hb.block k (h.lt k hk)
theorem BR.cap {ao : Option Addr} {n c : Nat} {Z : List Int} (h : BR w ao n c Z) : n ≤ c := by
  rcases h.2 with ⟨h0, _⟩ | ⟨q, cap2, cur, hv, hq, hh, hnc, r⟩
  · simp only [Value.slice.injEq] at h0
    omega
  · simp only [Value.slice.injEq, true_and] at hv
    obtain ⟨rfl, rfl⟩ := hv
    exact hnc
theorem BS.nil_ (w : World) : BS w none 0 0 [] := ⟨rfl, fun _ => ⟨rfl, rfl⟩, fun ad h => by cases h⟩
theorem BS.str {ao : Option Addr} {n cap : Nat} {Z : List Int} (S : BS w ao n cap Z) : (convert 22 9 (.slice ao n cap)).run Try.prog w = .ok (.string (strOfNums Z)) w := by
  cases ao with
  | none =>
    obtain ⟨rfl, rfl⟩ := S.nil rfl
    have e := List.eq_nil_of_length_eq_zero S.len
    subst e
    rw [run_convert_bytes_nil w 22 5 Try.underlying22 Try.underlying5 0 0 9 Try.underlying9]
    rfl
  | some ad =>
    by_cases h0 : n = 0
    · subst h0
      have e := List.eq_nil_of_length_eq_zero S.len
      subst e
      obtain ⟨q, off, sp⟩ := ad
      simp [convert, run_underlying Try.underlying22, run_underlying Try.underlying9, run_underlying Try.underlying5, Conv.bytesToString]
      rfl
    · have hs := World.cell?_spot (S.cell ad rfl 0 (by omega))
      obtain ⟨q, off, sp⟩ := ad
      have hs : sp = none := by simpa [Addr.add] using hs
      subst hs
      refine run_convert_bytes_arg w 22 5 Try.underlying22 Try.underlying5 q off n cap Z S.len (fun i hi => ?_) 9 Try.underlying9
      have := S.cell _ rfl i hi
      rw [Addr.add_lit] at this
      exact this
end Go.Proofs.Ytflinfmhmokfhaa
