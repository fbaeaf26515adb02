/- past's Next within the greatest limit: its contract. -/
import Derived.Test.YtlnhafjpmkopgaaPPq
namespace Go.Proofs.Ytlnhafjpmkopgaa
open Go.RowKit
attribute [local go_sem ↓] ldP_eq stP_eq ldD_eq stD_eq
attribute [local go_sem] zero_PC cells_PV fold_PC PC_size cells_RV RC_size zero_RC fold_RC

theorem build_D0 : Value.agg (RC rn0) = RV rn0 := rfl
theorem build_D (x y : Int) : ((RC rn0).setIfInBounds 0 (.int .i64 x)).setIfInBounds 1 (.int .i64 y) = RC ⟨x, y⟩ := rfl
attribute [local go_sem] build_D
theorem res2D {fn : Func} {p q : Tmp} {w : World} {g : Nat} {T : TypeId} {d : Rn} {v : Value} (h : fn.results = #[.cell p 35, .tmp q]) {tmps : Array Value} (hp : tmps.getD p undef = .pointer (some ⟨g, 0, none⟩)) (hq : tmps.getD q undef = v) (A : Box w g T d) :
    (results fn tmps).run Try.prog w = .ok (.tuple #[RV d, v]) w := by
  have hl : (loadVar 35 ⟨g, 0, none⟩).run Try.prog w = .ok (RV d) w := run_ldD A.at
  simp only [results, h]
  rw [Array.getD_eq_getD_getElem?] at hp hq
  simp [hp, hq, asAddr, hl]
/-- what Next answers behind the number k -/
def nxD (r k : Int) : Rn := if k = 1000000000 then rn0 else ⟨r, k + 1⟩
def nxE (k : Int) : Int := if k = 1000000000 then 9 else 0
set_option maxRecDepth 100000 in
theorem pastNext_any (a : Pv) (r k : Int) (hr : V.isR r = true) (hk : LastOf a.P r k) (w : World) (hS : PSrc w a) : Calls Try.prog 22 #[PV a, .int .i64 r, .int .i64 1000000000] w fun e w' => e = .returned (.tuple #[RV (nxD r k), .int .i64 (nxE k)]) ∧ Below w.heap.size w w' := by
  have b1 := below_new w (.cells (PC a) 25)
  have b2 := below_new (w.alloc (.cells (PC a) 25)) (.cells (RC rn0) 35)
  have X2 := box_new (w.alloc (.cells (PC a) 25)) 35 rn0
  rw [World.size_alloc] at X2
  have HXA := hide ((pbox_new w a).below b2)
  have HX2 := hide X2
  have HBK := hide (b1.trans (b2.mono b1.size))
  have HS := hide (hS.below HBK.out)
  have HR := hide hr
  have HK := hide hk
  have hkb := hk.bd
  clear b1 b2 X2 hS hr hk
  obtain ⟨wk, hwk⟩ : ∃ wk, (w.alloc (.cells (PC a) 25)).alloc (.cells (RC rn0) 35) = wk := ⟨_, rfl⟩
  rw [hwk] at HXA HX2 HBK HS
  have l1 := run_ldP HXA.out.at
  go_enter Try.func22, Try.ntmps22
  go_wp2_with (go_at_call 34; refine (isRepP_any r _).mono ?_; rintro e w' ⟨rfl, rfl⟩; rw [HR.out])
  clear hwk
  refine (lastT a r k _ HS.out HK.out).mono ?_
  rintro e w1 ⟨rfl, b3⟩
  have HX1 := hide (HX2.out.below b3)
  have HB1 := hide (HBK.out.trans (b3.mono HBK.out.size))
  clear l1 b3 HX2 HBK HXA HS
  by_cases h9 : k = 1000000000
  · subst h9
    have s1 := run_stD (r' := rn0) HX1.out
    have HE : Hid (Box (w1.setRow (w.heap.size + 1) (RC rn0)) (w.heap.size + 1) 35 rn0) := HX1.out.setRow
    have HBE := hide (below_setRow (cs := RC rn0) HB1.out (show w.heap.size ≤ w.heap.size + 1 by omega))
    go_wp2_with fail
    have e1 : nxD r 1000000000 = rn0 := if_pos rfl
    have e2 : nxE 1000000000 = 9 := if_pos rfl
    rw [e1, e2]
    exact bodyPost_ret (res2D Try.results22 rfl rfl HE.out) rfl ⟨rfl, HBE.out⟩
  · have s1 := run_stD (r' := ⟨r, k + 1⟩) HX1.out
    have HE : Hid (Box (w1.setRow (w.heap.size + 1) (RC ⟨r, k + 1⟩)) (w.heap.size + 1) 35 ⟨r, k + 1⟩) := HX1.out.setRow
    have HBE := hide (below_setRow (cs := RC ⟨r, k + 1⟩) HB1.out (show w.heap.size ≤ w.heap.size + 1 by omega))
    have HN := hide h9
    have h9' : ¬ 1000000000 ≤ k := by omega
    clear h9
    go_wp2_with fail
    have e1 : nxD r k = ⟨r, k + 1⟩ := if_neg HN.out
    have e2 : nxE k = 0 := if_neg HN.out
    rw [e1, e2]
    exact bodyPost_ret (res2D Try.results22 rfl rfl HE.out) rfl ⟨rfl, HBE.out⟩
end Go.Proofs.Ytlnhafjpmkopgaa
