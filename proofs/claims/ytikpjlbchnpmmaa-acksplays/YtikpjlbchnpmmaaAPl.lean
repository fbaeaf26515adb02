/- AcksPlays: the law's walk. -/
import Derived.Test.YtikpjlbchnpmmaaAPp
import Derived.Test.YtikpjlbchnpmmaaASc
namespace Go.Proofs.Ytikpjlbchnpmmaa
open Go.RowKit
attribute [local go_sem ↓] ldA_eq stA_eq ldS_eq
attribute [local go_sem] zero_PC
variable {w w' : World} {g : Nat}

set_option maxRecDepth 100000 in
set_option maxHeartbeats 2000000 in
theorem acksPlays_any (ao : Option Addr) (n c : Nat) (L : List Sp) (w : World) (hS : SSrc w ao n c L) :
    Calls Try.prog 3 #[.slice ao n c] w fun e w' => e = .returned (.bool true) ∧ Below w.heap.size w w' := by
  have HS := hide hS
  have HN : Hid (n ≤ 3518437208883) := hS.big
  clear hS
  go_enter Try.func3, Try.ntmps3
  go_wp2_with fail
  refine (start_any w).mono ?_
  rintro e w1 ⟨q, cq, rfl, T0, Tk, O1, b1⟩
  obtain ⟨n1, hn1⟩ : ∃ n1, w1.heap.size = n1 := ⟨_, rfl⟩
  obtain ⟨w2, hst, P2, b2, z2⟩ := madeA w1 (psE (w.heap.size + 2) q cq) n1 hn1
  have HQ := hide (start_qi T0 Tk O1 b1 hn1 P2 b2)
  have HI := hide (qs0_inv (w.heap.size + 2) q cq)
  clear T0 Tk O1 b1 P2 b2 z2
  go_wp2_with fail
  go_loopw [5] (fun i wr => ∃ k : Nat, k ≤ n ∧ i = .int .i64 k ∧ ∃ qs : Nat → Qp, Hid (QI w wr n1 qs (k + 1)) ∧ Hid (InvA qs)) (fun i _ => n - (intOf i).toNat)
  case atStart => exact ⟨0, Nat.zero_le _, rfl, _, HQ, HI⟩
  case round =>
    clear HQ HI
    obtain ⟨k, hk, rfl, qs, HQ, HI⟩ := hrel
    by_cases hlt : k < n
    · have HK1 : Hid (wrap64 ((k : Int) + 1) = ((k + 1 : Nat) : Int)) := by show _ = _; have := HN.out; rw [w64 (by omega) (by omega)]; rfl
      have HLT := hide hlt
      obtain ⟨bb, oo, rfl, A0⟩ := (HS.out.below HQ.out.bel).at k hlt
      obtain ⟨o, ho⟩ : ∃ o, L.getD k sp0 = o := ⟨_, rfl⟩
      rw [ho] at A0
      have hld := run_ldS A0
      have t1 := A0.c1
      rw [Addr.add_lit] at t1
      obtain ⟨j, hj, hj2⟩ := and3 o.t
      have hj4 : (j : Int) < 4 := by omega
      have HC := hide (play_any HQ.out HI.out hj (by have := HN.out; omega) o (j * 4) rfl)
      clear A0 ho
      go_wp2_with fail
      refine HC.out.mono ?_
      rintro e w3 ⟨rfl, qt, Q3, I3⟩
      have HQ3 := hide Q3
      have HI3 := hide I3
      clear Q3 I3 HC hld t1 hj2
      go_wp2_with fail
      go_roundw
      case rel => exact ⟨k + 1, HLT.out, by rw [HK1.out], qt, HQ3, HI3⟩
      case measure => rw [HK1.out]; have := HLT.out; simp [intOf]; omega
    · have HB := hide HQ.out.bel
      go_wp2_with fail
      go_ret
      exact ⟨rfl, HB.out⟩
end Go.Proofs.Ytikpjlbchnpmmaa
