/- act's table of rules: a map of functions. -/
import Derived.Test.YtojpjakpcihacaaGreatGBs
import Derived.Maps.OwnSet
import Derived.Maps.Ext
namespace Go.Proofs.YtojpjakpcihacaaGreat
open Go.RowKit Go.Maps Go.ChangeMaps
variable {w w' : World} {b K : Nat}

theorem lawI : Keyed Tryz.prog 3 := int_keyed Tryz.underlying3
def fv : Option Nat → Value
  | none => .nilFunc
  | some n => .func (.func n) #[] #[]
/-- how a rule in the map reads -/
def RF (v : Value) : Option (DataW (Option Nat) × List MemPlace) :=
  match v with
  | .nilFunc => some (.held none, [])
  | .func (.func n) bs fs => (match bs.toList, fs.toList with
    | [], [] => some (.held (some n), [])
    | _, _ => none)
  | _ => none
theorem RF_mk (n : Nat) : RF (.func (.func n) #[] #[]) = some (.held (some n), []) := rfl
theorem RF_inv {v : Value} {o : Option Nat} {ps : List MemPlace} (h : RF v = some (.held o, ps)) : v = fv o := by
  unfold RF at h
  split at h
  · simp at h; obtain ⟨rfl, _⟩ := h; rfl
  · rename_i n bs fs
    split at h
    · rename_i h1 h2
      simp at h
      obtain ⟨rfl, _⟩ := h
      rw [show bs = #[] from Array.toList_inj.1 h1, show fs = #[] from Array.toList_inj.1 h2]
      rfl
    · cases h
  · cases h
def i64ok (x : Int) : Prop := -9223372036854775808 ≤ x ∧ x ≤ 9223372036854775807
theorem wf_of {x : Int} (h : i64ok x) : (Lit.int .i64 x).wf = true := by
  have e1 : IntKind.i64.min = -9223372036854775808 := by decide
  have e2 : IntKind.i64.max = 9223372036854775807 := by decide
  unfold i64ok at h
  simp only [Lit.wf, e1, e2, Bool.and_eq_true, decide_eq_true_eq]
  exact h
theorem key_of {x : Int} (h : i64ok x) : keyOf Tryz.prog 3 (.int .i64 x) = some (.int .i64 x) := keyOf_int_mk Tryz.underlying3 (wf_of h)
def Md (D : DataW (Option Nat)) (M : Int → Option Nat) : Prop := ∀ x, D.atKey (.int .i64 x) (.held none) = .held (M x)
def mput (M : Int → Option Nat) (x : Int) (l : Nat) : Int → Option Nat := fun y => if y = x then some l else M y
theorem lit_ne {x y : Int} (h : y ≠ x) : (Lit.int .i64 y) ≠ .int .i64 x := fun e => h (by simpa using e)
theorem Md.put {D : DataW (Option Nat)} {M : Int → Option Nat} (h : Md D M) (hm : IsMap D) (x : Int) (l : Nat) : Md (D.put (.int .i64 x) (.held (some l))) (mput M x l) := by
  intro y
  unfold mput
  by_cases e : y = x
  · subst e; rw [if_pos rfl, atKey_put_same hm (k := .int .i64 y) (show WideAt.IsKeyLit (.int .i64 y) from trivial)]
  · rw [if_neg e, atKey_put_other (lit_ne e), h]
/-- the map at b holds these functions -/
def MapR (w : World) (b K : Nat) (M : Int → Option Nat) : Prop := ∃ D, w.ownsMap Tryz.prog 3 RF b K D ∧ Md D M
theorem MapR.made (w : World) : MapR (w.alloc (.map #[] 0)) w.heap.size 0 (fun _ => none) := ⟨_, World.ownsMap_made w Tryz.prog 3 RF, fun _ => rfl⟩
theorem MapR.put {M : Int → Option Nat} (h : MapR w b K M) {x : Int} (hx : i64ok x) (n : Nat) (hK : K < maxLen) : ∃ w', (Instr.mapUpdate 46 (.map (some b)) (.int .i64 x) (.func (.func n) #[] #[])).run Tryz.prog w = .ok () w' ∧ MapR w' b (K + 1) (mput M x n) ∧ (∀ m, m ≤ b → ∀ w0, Below m w0 w → Below m w0 w') := by
  obtain ⟨D, h, hM⟩ := h
  obtain ⟨w', hr, h', es, clock, es', clock', hb, rfl⟩ := h.store lawI Tryz.underlying46 hK (key_of hx) (RF_mk n)
  refine ⟨_, hr, ⟨_, h', hM.put h.isMap x n⟩, fun m hm w0 h0 => h0.trans ⟨rfl, rfl, rfl, by simp [setBlock], fun k hk => ?_⟩⟩
  simp [setBlock, show b ≠ k by omega]
theorem zeroF (w : World) : (zeroValue 45).run Tryz.prog w = .ok .nilFunc w := Tryz.zeroValue45 w
theorem MapR.look {M : Int → Option Nat} (h : MapR w b K M) {x : Int} (hx : i64ok x) : (Instr.lookup 46 (.map (some b)) (.int .i64 x) false).run Tryz.prog w = .ok (fv (M x)) w := by
  obtain ⟨D, h, hM⟩ := h
  obtain ⟨v, ps, hr, hv⟩ := h.lookup lawI Tryz.underlying46 (zeroF w) (zd := .held none) (zp := []) rfl (key_of hx)
  rw [hM] at hv
  rw [hr, RF_inv hv]
def ruleM : Int → Option Nat := mput (mput (mput (mput (mput (mput (fun _ => none) 1 33) 2 34) 3 35) 4 36) 5 37) 6 38
theorem ruleM_no {k : Int} (h : k < 1 ∨ 6 < k) : ruleM k = none := by
  unfold ruleM mput
  rw [if_neg (by omega), if_neg (by omega), if_neg (by omega), if_neg (by omega), if_neg (by omega), if_neg (by omega)]
theorem ruleM_yes {k : Int} (h : 1 ≤ k ∧ k ≤ 6) : ∃ n, ruleM k = some n := by
  unfold ruleM mput
  by_cases h6 : k = 6
  · exact ⟨_, if_pos h6⟩
  rw [if_neg h6]
  by_cases h5 : k = 5
  · exact ⟨_, if_pos h5⟩
  rw [if_neg h5]
  by_cases h4 : k = 4
  · exact ⟨_, if_pos h4⟩
  rw [if_neg h4]
  by_cases h3 : k = 3
  · exact ⟨_, if_pos h3⟩
  rw [if_neg h3]
  by_cases h2 : k = 2
  · exact ⟨_, if_pos h2⟩
  rw [if_neg h2]
  exact ⟨_, if_pos (by omega)⟩
theorem rules_any (w : World) : Calls Tryz.prog 15 #[] w fun e w' => e = .returned (.map (some w.heap.size)) ∧ MapR w' w.heap.size 6 ruleM ∧ Below w.heap.size w w' := by
  have m0 := MapR.made w
  have b0 := below_new w (.map #[] 0)
  obtain ⟨w0, hw0⟩ : ∃ w0, w.alloc (.map #[] 0) = w0 := ⟨_, rfl⟩
  rw [hw0] at m0 b0
  have hmm := @run_makeMap Tryz.prog
  obtain ⟨w1, r1, m1, k1⟩ := m0.put (x := 1) ⟨by decide, by decide⟩ 33 (by decide)
  obtain ⟨w2, r2, m2, k2⟩ := m1.put (x := 2) ⟨by decide, by decide⟩ 34 (by decide)
  obtain ⟨w3, r3, m3, k3⟩ := m2.put (x := 3) ⟨by decide, by decide⟩ 35 (by decide)
  obtain ⟨w4, r4, m4, k4⟩ := m3.put (x := 4) ⟨by decide, by decide⟩ 36 (by decide)
  obtain ⟨w5, r5, m5, k5⟩ := m4.put (x := 5) ⟨by decide, by decide⟩ 37 (by decide)
  obtain ⟨w6, r6, m6, k6⟩ := m5.put (x := 6) ⟨by decide, by decide⟩ 38 (by decide)
  have HF : Hid (MapR w6 w.heap.size 6 ruleM ∧ Below w.heap.size w w6) := ⟨m6, k6 _ (Nat.le_refl _) _ (k5 _ (Nat.le_refl _) _ (k4 _ (Nat.le_refl _) _ (k3 _ (Nat.le_refl _) _ (k2 _ (Nat.le_refl _) _ (k1 _ (Nat.le_refl _) _ b0)))))⟩
  clear m0 b0 m1 m2 m3 m4 m5 m6 k1 k2 k3 k4 k5 k6
  go_enter Tryz.func15, Tryz.ntmps15
  go_wp2_with fail
  go_ret
  exact ⟨rfl, HF.out⟩
end Go.Proofs.YtojpjakpcihacaaGreat
