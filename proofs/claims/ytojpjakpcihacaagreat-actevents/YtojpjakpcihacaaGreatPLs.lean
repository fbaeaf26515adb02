/- past's Last: its contract. -/
import Derived.Test.YtojpjakpcihacaaGreatSLt
import Derived.Test.YtojpjakpcihacaaGreatPNm
namespace Go.Proofs.YtojpjakpcihacaaGreat
open Go.RowKit
attribute [local go_sem ↓] ldP_eq stP_eq ldA_eq stA_eq ixA_eq
attribute [local go_sem] zeros_SA cells_SAv zero_PC cells_PV fold_PC PC_size fold_PC1

/-- the replica's greatest number; 0: it has none -/
def LastOf (P : Pst) (r : Int) (k : Int) : Prop := (V.isR r = true ∧ Most (runsAt P r.toNat) k) ∨ (V.isR r = false ∧ k = 0)
theorem LastOf.unique {P : Pst} {r k l : Int} (h : LastOf P r k) (h' : LastOf P r l) : k = l := by
  rcases h with ⟨h1, h2⟩ | ⟨h1, h2⟩ <;> rcases h' with ⟨g1, g2⟩ | ⟨g1, g2⟩
  · exact h2.unique g2
  · rw [h1] at g1; cases g1
  · rw [h1] at g1; cases g1
  · rw [h2, g2]
/-- a number is handed back; old memory stands -/
def GivesZ (w w' : World) (e : Ending) (P : Int → Prop) : Prop := ∃ k, e = .returned (.int .i64 k) ∧ P k ∧ Below w.heap.size w w'
set_option maxRecDepth 100000 in
theorem pastLast_any (a : Pv) (r : Int) (w : World) (hS : PSrc w a) : Calls Tryz.prog 32 #[PV a, .int .i64 r] w fun e w' => GivesZ w w' e (LastOf a.P r) := by
  have b1 := below_new w (.cells (PC a) 25)
  have HX := hide (pbox_new w a)
  have HBK := hide b1
  have HS := hide (hS.below b1)
  have l0 := run_ldP HX.out.at
  clear hS b1
  obtain ⟨wk, hwk⟩ : ∃ wk, w.alloc (.cells (PC a) 25) = wk := ⟨_, rfl⟩
  rw [hwk] at HBK HX HS l0
  obtain ⟨x, Hx⟩ : ∃ x, Hid (V.isR r = x) := ⟨_, rfl⟩
  cases x with
  | false =>
    have HF : Hid (LastOf a.P r 0) := Or.inr ⟨Hx.out, rfl⟩
    go_enter Tryz.func32, Tryz.ntmps32
    go_wp2_with (go_at_call 31; refine (isRepP_any r _).mono ?_; rintro e w' ⟨rfl, rfl⟩; rw [Hx.out])
    go_ret
    exact ⟨0, rfl, HF.out, HBK.out⟩
  | true =>
    have hr : 0 ≤ r ∧ r < 16 := by have := Hx.out; simp [V.isR] at this; exact this
    obtain ⟨k, rfl⟩ : ∃ k : Nat, r = k := ⟨r.toNat, by omega⟩
    have hk : k < 16 := by omega
    have b2 := below_new wk (.cells (PC a) 25)
    have HR := hide (prow_one wk a HS.out)
    have HWT := hide (wt_one HS.out)
    have HB2 := hide (HBK.out.trans (b2.mono HBK.out.size))
    clear b2
    go_enter Tryz.func32, Tryz.ntmps32
    go_wp2_with (go_at_call 31; refine (isRepP_any _ _).mono ?_; rintro e w' ⟨rfl, rfl⟩; rw [Hx.out])
    clear hwk
    refine (setsOf_any _ 1 1 [a] _ HR.out HWT.out (by omega)).mono ?_
    rintro e w2 ⟨F, rfl, R2, b3⟩
    have HR2 := hide R2
    have HB3 := hide (HB2.out.trans (b3.mono HB2.out.size))
    have hix : (ixA (SAv F) (.int .i64 (k : Int))).run Tryz.prog w2 = _ := run_idxA F k hk w2
    clear R2 b3 l0
    go_wp2_with fail
    refine (last_any _ _ _ _ _ (HR2.out.src k hk)).mono ?_
    rintro e w3 ⟨z, rfl, hz, b4⟩
    have HZ : Hid (LastOf a.P k z) := by
      left
      refine ⟨Hx.out, ?_⟩
      rw [Int.toNat_natCast, ← runsOf_one a k, ← HR2.out.eq k hk]
      exact hz
    have HB4 := hide (HB3.out.trans (b4.mono HB3.out.size))
    clear hz b4 hix
    go_wp2_with fail
    go_ret
    exact ⟨z, rfl, HZ.out, HB4.out⟩
end Go.Proofs.YtojpjakpcihacaaGreat
