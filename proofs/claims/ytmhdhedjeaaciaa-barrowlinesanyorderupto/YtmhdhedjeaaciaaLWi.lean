/- with: its contract; how a map's line reads. -/
import Derived.Test.YtmhdhedjeaaciaaLMe
namespace Go.Proofs.Ytmhdhedjeaaciaa
open Go.RowKit Go.Maps
attribute [local go_sem ↓] stL_eq
attribute [local go_sem] zero_LC cells_LV LC_size

theorem set_LC (t : ByteArray) (a b : Int) : ((((LC ln0).setIfInBounds 0 (.string t)).setIfInBounds 1 (.int .i64 a)).setIfInBounds 2 (.int .i64 b)) = LC ⟨t, a, b⟩ := rfl
theorem fold_LC (e : Ln) : Array.foldl (fun cs x => cs.setIfInBounds x.snd x.fst) (LC ln0) (LC e).zipIdx 0 3 = LC e := rfl
theorem resL {fn : Func} {p : Tmp} {w : World} {g : Nat} {T : TypeId} {e : Ln} (h : fn.results = #[.cell p 29]) {tmps : Array Value} (hp : tmps.getD p undef = .pointer (some ⟨g, 0, none⟩)) (A : LBox w g T e) :
    (results fn tmps).run Try.prog w = .ok (LV e) w := by
  have hl := run_lvL A.at
  simp only [results, h]
  rw [Array.getD_eq_getD_getElem?] at hp
  simp [hp, asAddr, hl]
/-- a line and an error are handed back -/
theorem resLE {fn : Func} {p q : Tmp} {w : World} {g : Nat} {T : TypeId} {e : Ln} {b : Value} (h : fn.results = #[.cell p 29, .tmp q]) {tmps : Array Value} (hp : tmps.getD p undef = .pointer (some ⟨g, 0, none⟩)) (hq : tmps.getD q undef = b) (A : LBox w g T e) :
    (results fn tmps).run Try.prog w = .ok (.tuple #[LV e, b]) w := by
  have hl := run_lvL A.at
  simp only [results, h]
  rw [Array.getD_eq_getD_getElem?] at hp hq
  simp [hp, hq, asAddr, hl]
/-- how a line in a map reads -/
def RL (v : Value) : Option (DataW Ln × List MemPlace) :=
  match v with
  | .agg cs => (match cs.toList with
    | [.string s, .int .i64 q, .int .i64 p] => some (.held ⟨s, q, p⟩, [])
    | _ => none)
  | _ => none
theorem RL_line (l : Ln) : RL (LV l) = some (.held l, []) := rfl
theorem RL_inv {v : Value} {l : Ln} {ps : List MemPlace} (h : RL v = some (.held l, ps)) : v = LV l := by
  unfold RL at h
  split at h
  · rename_i cs
    split at h
    · rename_i s q p hcs
      simp at h
      obtain ⟨rfl, _⟩ := h
      show Value.agg cs = Value.agg #[.string s, .int .i64 q, .int .i64 p]
      rw [show cs = #[.string s, .int .i64 q, .int .i64 p] from Array.toList_inj.1 hcs]
    · cases h
  · cases h
attribute [local go_sem] set_LC
set_option maxRecDepth 100000 in
theorem with_any (l : Ln) (e : En) (w : World) (hq : 0 ≤ l.qty ∧ l.qty ≤ 16000000000000000) (hp : 0 ≤ l.parts ∧ l.parts ≤ 16000000000) (he : 1 ≤ e.qty ∧ e.qty ≤ 1000000) :
    Calls Try.prog 31 #[LV l, EV e] w fun x w' => x = .returned (LV (addL l e)) ∧ Below w.heap.size w w' := by
  obtain ⟨s, q, p⟩ := l
  obtain ⟨r, m, t, z⟩ := e
  have hw1 : IntKind.i64.wrap (q + z) = q + z := by simp only at hq he; rw [IntKind.wrap_i64]; omega
  have hw2 : IntKind.i64.wrap (p + 1) = p + 1 := by simp only at hp; rw [IntKind.wrap_i64]; omega
  clear hq hp he
  have B1 := hide (below_new w (.cells #[.string s, .int .i64 q, .int .i64 p] 29))
  have B2 := hide (B1.out.trans ((below_new (w.alloc (.cells #[.string s, .int .i64 q, .int .i64 p] 29)) (.cells #[.int .i64 r, .int .i64 m, .string t, .int .i64 z] 40)).mono B1.out.size))
  obtain ⟨w3, hst, X3, B3, Z3⟩ := madeL ((w.alloc (.cells #[.string s, .int .i64 q, .int .i64 p] 29)).alloc (.cells #[.int .i64 r, .int .i64 m, .string t, .int .i64 z] 40)) ⟨t, q + z, p + 1⟩ (w.heap.size + 1 + 1) (by simp)
  have HX := hide X3
  have HB := hide (B2.out.trans (B3.mono B2.out.size))
  clear X3 B3 Z3 B1 B2
  show Calls Try.prog 31 #[.agg #[.string s, .int .i64 q, .int .i64 p], .agg #[.int .i64 r, .int .i64 m, .string t, .int .i64 z]] w _
  go_enter Try.func31, Try.ntmps31
  go_wp2_with fail
  exact bodyPost_ret (resL Try.results31 rfl HX.out) rfl ⟨rfl, HB.out⟩
end Go.Proofs.Ytmhdhedjeaaciaa
