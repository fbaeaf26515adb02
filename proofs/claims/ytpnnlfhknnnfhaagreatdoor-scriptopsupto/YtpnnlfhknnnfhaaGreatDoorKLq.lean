/- ScriptOps: the law. -/
import Derived.Test.YtpnnlfhknnnfhaaGreatDoorKRi
import Derived.Test.YtpnnlfhknnnfhaaGreatDoorKAw
namespace Go.Proofs.YtpnnlfhknnnfhaaGreatDoor
open Go.RowKit T Y V
variable {w w' w2 : World} {g : Nat}
attribute [local go_sem ↓] ldSh_eq stSh_eq ldO_eq stO_eq run_eqO

set_option maxRecDepth 100000 in
set_option maxHeartbeats 3200000 in
theorem ops_any (T : List UInt8) (hT : T.length ≤ 100000000000) (w : World) (hu : Un w) :
    Calls Tryz.prog 3 #[.string (bs T)] w fun r w' => r = .returned (.bool true) ∧ Below w.heap.size w w' := by
  obtain ⟨o, ho⟩ : ∃ o, (parseOpP T).getD sp0 = o := ⟨_, rfl⟩
  obtain ⟨n, hn⟩ : ∃ n : Int, (if (parseOpP T).isSome then 0 else 17) = n := ⟨_, rfl⟩
  have hA : ∀ e, PoA T e → e = .returned (.tuple #[.agg (OC o), .int .i64 n]) := fun e h => by
    unfold PoA at h
    rw [h, ← ho, ← hn]
  have HA := hide (awake_any w hu)
  have HP : Hid (∀ v, Un v → Calls Tryz.prog 5 #[.string (bs T)] v fun e w' => e = .returned (.tuple #[.agg (OC o), .int .i64 n]) ∧ Below v.heap.size v w') := fun v u => (parseOp_any T (by omega) v u.t u.s u.e).mono fun e w' ⟨h, hb⟩ => ⟨hA e h, hb⟩
  have HR : Hid (∀ v, Calls Tryz.prog 6 #[.string (bs T)] v fun e w' => e = .returned (.tuple #[.agg (OC o), .int .i64 n]) ∧ Below v.heap.size v w') := fun v => (rparseOp_any T hT v).mono fun e w' ⟨h, hb⟩ => ⟨hA e h, hb⟩
  have HU := hide hu
  have heq : eqO o o = true := (eqO_iff o o).2 rfl
  obtain ⟨s, hs⟩ : ∃ s, bs T = s := ⟨_, rfl⟩
  rw [hs] at HP HR ⊢
  clear hs hu hA ho hn
  go_enter Tryz.func3, Tryz.ntmps3
  go_wp2_with fail
  refine HA.out.mono ?_
  rintro e w1 ⟨rfl, b1⟩
  have HB1 := hide b1
  clear HA b1
  go_wp2_with fail
  refine (HP.out w1 (HU.out.on HB1.out)).mono ?_
  rintro e w2 ⟨rfl, b2⟩
  obtain ⟨w3, hst3, hx3, b3, -⟩ := madeO w2 o w2.heap.size rfl
  have hst3' : (stO (.pointer (some ⟨w2.heap.size, 0, none⟩)) (.agg (OC o))).run Tryz.prog (w2.alloc (.cells #[.int .i64 0, .int .i64 0, .int .i64 0, .int .i64 0, .string ⟨#[]⟩, .int .i64 0, .int .i64 0] 24)) = .ok () w3 := hst3
  have HX3 := hide hx3
  have bw2 := HB1.out.trans (b2.mono HB1.out.size)
  have HB3 := hide (bw2.trans (b3.mono bw2.size))
  clear hst3 hx3 b3 b2 bw2
  go_wp2_with fail
  refine (HR.out w3).mono ?_
  rintro e w4 ⟨rfl, b4⟩
  obtain ⟨w5, hst5, hx5, b5, -⟩ := madeO w4 o w4.heap.size rfl
  have hst5' : (stO (.pointer (some ⟨w4.heap.size, 0, none⟩)) (.agg (OC o))).run Tryz.prog (w4.alloc (.cells #[.int .i64 0, .int .i64 0, .int .i64 0, .int .i64 0, .string ⟨#[]⟩, .int .i64 0, .int .i64 0] 24)) = .ok () w5 := hst5
  have hld5 := run_ldO hx5
  have hld3 := run_ldO ((HX3.out.below b4).below b5)
  have bw4 := HB3.out.trans (b4.mono HB3.out.size)
  have HB5 := hide (bw4.trans (b5.mono bw4.size))
  clear hst5 hx5 b5 b4 bw4
  go_wp2_with fail
  go_ret
  exact ⟨rfl, HB5.out⟩
theorem ops_str (a : ByteArray) (ha : a.size ≤ 100000000000) (w : World) (hu : Un w) : Calls Tryz.prog 3 #[.string a] w fun r w' => r = .returned (.bool true) ∧ Below w.heap.size w w' := by
  have := ops_any a.data.toList (by simpa using ha) w hu
  rwa [bs_of] at this
end Go.Proofs.YtpnnlfhknnnfhaaGreatDoor
