/- LSame LOnc -/
import Derived.Test.YtooinnhjeloocaaGreatLs29
import Derived.Laws.StructEq
import Derived.Test.YtooinnhjeloocaaGreatLs35
namespace Go.Proofs.YtooinnhjeloocaaGreat.K
open Go.RowKit
attribute [local go_sem ↓] ld28_eq st28_eq
attribute [local go_sem] zero_EC cells_EV
def eqE (x y : En) : Bool := x.rep == y.rep && x.num == y.num && x.sku.toList == y.sku.toList && x.qty == y.qty
theorem run_eq26 (a b c d : Int) (w : World) : (Op.equalIn 9999 28 (.agg #[.int .i64 a, .int .i64 b]) (.agg #[.int .i64 c, .int .i64 d])).run Tryz.prog w = .ok (a == c && b == d) w := by
  have u3 := Tryz.underlying3
  have a3 := Tryz.isAgg3
  have z3 := Tryz.sizeOf3
  have hS : Tryz.prog.underlying 28 = some (.struct (Tryz.prog.fieldsOf 28)) := by kernel_rfl
  have hp : Tryz.prog.stoodInHeld 28 = false := by kernel_rfl
  rw [show (9999 : Nat) = 9998 + 1 from rfl, run_equalIn_struct w 9998 28 _ _ hS hp]
  simp only [Program.fieldsOf, Tryz.underlying28]
  go_simp
  by_cases h1 : a = c <;> by_cases h2 : b = d <;> simp [h1, h2]
theorem run_eq28 (x y : En) (w : World) : (Op.equalIn 10000 36 (.agg (EC x)) (.agg (EC y))).run Tryz.prog w = .ok (eqE x y) w := by
  have u3 := Tryz.underlying3
  have a3 := Tryz.isAgg3
  have z3 := Tryz.sizeOf3
  have u9 := Tryz.underlying9
  have a9 := Tryz.isAgg9
  have z9 := Tryz.sizeOf9
  have a26 := Tryz.isAgg28
  have z26 := Tryz.sizeOf28
  have hS : Tryz.prog.underlying 36 = some (.struct (Tryz.prog.fieldsOf 36)) := by kernel_rfl
  have hp : Tryz.prog.stoodInHeld 36 = false := by kernel_rfl
  obtain ⟨r, m, s, q⟩ := x
  obtain ⟨r', m', s', q'⟩ := y
  have h26 := run_eq26 r m r' m'
  show (Op.equalIn 10000 36 (.agg #[.int .i64 r, .int .i64 m, .string s, .int .i64 q]) (.agg #[.int .i64 r', .int .i64 m', .string s', .int .i64 q'])).run Tryz.prog w = .ok (r == r' && m == m' && s.toList == s'.toList && q == q') w
  rw [show (10000 : Nat) = 9999 + 1 from rfl, run_equalIn_struct w 9999 36 _ _ hS hp]
  simp only [Program.fieldsOf, Tryz.underlying36]
  have h9 : ∀ w, (Op.equalIn 9999 9 (.string s) (.string s')).run Tryz.prog w = .ok (s.toList == s'.toList) w := fun w => run_equalIn_string w 9998 9 s s' Tryz.underlying9
  have h3 : ∀ w, (Op.equalIn 9999 3 (.int .i64 q) (.int .i64 q')).run Tryz.prog w = .ok (q == q') w := fun w => run_equalIn_int w 9998 3 .i64 .i64 q q' Tryz.underlying3
  obtain ⟨D, hD⟩ : ∃ D, 9999 = D := ⟨9999, rfl⟩
  rw [hD] at h26 h9 h3 ⊢
  go_simp
  by_cases e1 : r = r'
  · by_cases e2 : m = m'
    · by_cases e3 : s.toList = s'.toList
      · by_cases e4 : q = q'
        · simp [e1, e2, e3, e4]
        · simp [e1, e2, e3, e4]
      · simp [e1, e2, e3]
    · simp [e1, e2]
  · simp [e1]
theorem eqE_self (x : En) : eqE x x = true := by simp [eqE]
attribute [local go_sem ↓] run_eq28
set_option maxHeartbeats 1600000 in
theorem same_any (ao bo : Option Addr) (n cap m cap' : Nat) (L R : List En) (w : World) (hS : ESrc w ao n cap L) (hR : ESrc w bo m cap' R) (hE : L = R) :
    Calls Tryz.prog 10 #[.slice ao n cap, .slice bo m cap'] w fun e w' => e = .returned (.bool true) ∧ Below w.heap.size w w' := by
  have HS := hide hS
  have HR := hide hR
  have hn := hS.2.2.2.2
  have hnm : n = m := by rw [← hS.1, ← hR.1, hE]
  subst hE
  subst hnm
  clear hS hR
  go_enter Tryz.func10, Tryz.ntmps10
  go_wp2_with fail
  go_loopw [5] (fun i wr => ∃ k : Nat, k ≤ n ∧ i = .int .i64 k ∧ Hid (Below w.heap.size w wr)) (fun i _ => n - (intOf i).toNat)
  case atStart => exact ⟨0, Nat.zero_le _, rfl, Below.refl _ _⟩
  case round =>
    obtain ⟨k, hk, rfl, HB⟩ := hrel
    by_cases hlt : k < n
    · obtain ⟨ad, rfl, A0⟩ := (HS.out.below HB.out).at k hlt
      obtain ⟨bd, rfl, A1⟩ := (HR.out.below HB.out).at k hlt
      obtain ⟨e, He⟩ : ∃ e, Hid (L.getD k en0 = e) := ⟨_, rfl⟩
      rw [He.out] at A0 A1
      have l0 : ∀ d os, (ld28 (.pointer (some (ad.add (k * 4))))).run Tryz.prog (Sort.grow (redrawn wr d) os) = .ok (EV e) (Sort.grow (redrawn wr d) os) := fun d os => run_ld28 (A0.on (below_regrown wr d os))
      have l1 : ∀ d os, (ld28 (.pointer (some (bd.add (k * 4))))).run Tryz.prog (Sort.grow (redrawn wr d) os) = .ok (EV e) (Sort.grow (redrawn wr d) os) := fun d os => run_ld28 (A1.on (below_regrown wr d os))
      have hq := eqE_self e
      clear A0 A1
      go_wp2_with fail
      refine wp_region_quiet_below (by kernel_rfl) (by kernel_rfl) ?_
      repeat (with_reducible (refine wpQuiet_step ?_); intro K hK; go_simp; (try rw [if_neg (by unfold undef; simp)]); first | (with_reducible (refine hK _ ?_); clear hK K) | (apply Exists.intro; refine ⟨fun _ => ?_, hK _ ?_⟩; (fail); clear hK K))
      with_reducible (refine wpQuiet_nil ?_)
      intro _ hw'
      obtain ⟨⟨dq, osq⟩, hw''⟩ := hw'
      subst hw''
      have HBE : Hid (Below w.heap.size w (Sort.grow (redrawn wr dq) osq)) := HB.out.trans ((below_regrown wr dq osq).mono HB.out.size)
      go_wp2_with fail
      go_roundw
      case rel => exact ⟨k + 1, by omega, by go_num, HBE⟩
      case measure => simp [intOf]; omega
    · go_wp2_with fail
      go_ret
      exact ⟨rfl, HB.out⟩
end Go.Proofs.YtooinnhjeloocaaGreat.K
namespace Go.Proofs.YtooinnhjeloocaaGreat.K
open Go.RowKit
attribute [local go_sem ↓] ld28_eq st28_eq ld26_eq
attribute [local go_sem] zero_EC cells_EV EC_size fold_EC
theorem run_eqD (x y : En) (w : World) : (Op.equalIn 10000 28 (.agg (DC x)) (.agg (DC y))).run Tryz.prog w = .ok (sameDot x y) w := by
  have u3 := Tryz.underlying3
  have a3 := Tryz.isAgg3
  have z3 := Tryz.sizeOf3
  have hS : Tryz.prog.underlying 28 = some (.struct (Tryz.prog.fieldsOf 28)) := by kernel_rfl
  have hp : Tryz.prog.stoodInHeld 28 = false := by kernel_rfl
  obtain ⟨a, b, _, _⟩ := x
  obtain ⟨c, d, _, _⟩ := y
  show (Op.equalIn 10000 28 (.agg #[.int .i64 a, .int .i64 b]) (.agg #[.int .i64 c, .int .i64 d])).run Tryz.prog w = .ok (a == c && b == d) w
  rw [show (10000 : Nat) = 9999 + 1 from rfl, run_equalIn_struct w 9999 28 _ _ hS hp]
  simp only [Program.fieldsOf, Tryz.underlying28]
  go_simp
  by_cases h1 : a = c <;> by_cases h2 : b = d <;> simp [h1, h2]
attribute [local go_sem ↓] run_eq28 run_eqD
theorem eqE_iff (x y : En) : eqE x y = true ↔ x = y := by
  constructor
  · intro h
    obtain ⟨a, b, s, c⟩ := x
    obtain ⟨a', b', s', c'⟩ := y
    simp only [eqE, Bool.and_eq_true, beq_iff_eq] at h
    obtain ⟨⟨⟨rfl, rfl⟩, h3⟩, rfl⟩ := h
    have : s = s' := by
      rw [ByteArray.toList_eq, ByteArray.toList_eq] at h3
      cases s; cases s'; simp at h3; simp [h3]
    rw [this]
  · rintro rfl; exact eqE_self _
/-- a list and an error are handed back: the entries settled -/
def GivesT (w w' : World) (e : Ending) (L : List En) : Prop := ∃ ao n c R er, e = .returned (.tuple #[.slice ao n c, .int .i64 er]) ∧ ESrc w' ao n c R ∧ Below w.heap.size w w' ∧ (∀ ad, ao = some ad → w.heap.size ≤ ad.block) ∧ Settled L R er
end Go.Proofs.YtooinnhjeloocaaGreat.K
