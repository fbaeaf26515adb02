/- The law's awake. -/
import Derived.Test.YtpnnlfhknnnfhaaGreatDoorKPo
namespace Go.Proofs.YtpnnlfhknnnfhaaGreatDoor
open Go.RowKit T Y V
variable {w w' w2 : World} {g : Nat}
attribute [local go_sem ↓] ldSh_eq stSh_eq ldO_eq stO_eq

/-- what the variables of packages hold -/
structure Un (w : World) : Prop where
  t : Tab w
  s : Sht w
  e : Evs w
theorem Un.on (h : Un w) (hb : Below w.heap.size w w') : Un w' := ⟨h.t.on hb, h.s.on hb, h.e.on hb⟩
def awO : Sp := ⟨1, 0, 2, 0, ⟨#[84, 69, 65, 45, 49]⟩, 5, 0⟩
def awL : List UInt8 := [115, 101, 116, 32, 48, 32, 50, 32, 84, 69, 65, 45, 49, 32, 53]
theorem num_small (u : Nat) (h : u < 10) : num (u : Int) = [UInt8.ofNat (48 + u)] := by
  unfold num Lib.itoa
  rw [if_neg (by omega), Int.toNat_natCast, Lib.decDigits, dif_pos h]
theorem aw_line : opT awO = awL := by
  have e0 : num 0 = [48] := num_small 0 (by decide)
  have e2 : num 2 = [50] := num_small 2 (by decide)
  have e5 : num 5 = [53] := num_small 5 (by decide)
  have es : skT [84, 69, 65, 45, 49] = [84, 69, 65, 45, 49] := by decide
  have h1 : wrdL awO.kind = [115, 101, 116] := by decide
  have h2 : fdsL awO.kind = [114, 99, 115, 113] := by decide
  unfold opT
  rw [h1, h2]
  simp [fdsT, fdT, fdN, awO, e0, e2, e5, es, awL]
theorem aw_ok : Ok awO := by
  have h : ∀ f, fdN awO f = 1 ∨ fdN awO f = 0 ∨ fdN awO f = 2 ∨ fdN awO f = 5 := by
    intro f
    unfold fdN
    simp only [awO]
    repeat' split
    all_goals simp
  exact ⟨fun f => by have := h f; omega, fun f => by have := h f; omega, by decide⟩
theorem aw_plain : plainP awO = awO := by rfl
theorem aw_parse : parseOpP awL = some awO := by rw [← aw_line, parse_print awO aw_ok, aw_plain]
set_option maxRecDepth 100000 in
set_option maxHeartbeats 3200000 in
theorem awake_any (w : World) (hu : Un w) : Calls Tryz.prog 4 #[] w fun e w' => e = .returned (.bool true) ∧ Below w.heap.size w w' := by
  have HC : Hid (Calls Tryz.prog 5 #[.string ⟨#[115, 101, 116, 32, 48, 32, 50, 32, 84, 69, 65, 45, 49, 32, 53]⟩] w fun e w' => e = .returned (.tuple #[.agg (OC awO), .int .i64 0]) ∧ Below w.heap.size w w') := by
    refine (parseOp_any awL (by decide) w hu.t hu.s hu.e).mono ?_
    rintro e w' ⟨h, hb⟩
    unfold PoA at h
    rw [aw_parse] at h
    exact ⟨h, hb⟩
  obtain ⟨y, hy⟩ : ∃ y, y = bs awL := ⟨_, rfl⟩
  have hyq : (y.toList == [115, 101, 116, 32, 48, 32, 50, 32, 84, 69, 65, 45, 49, 32, 53]) = true := by rw [hy, ByteArray.toList_eq, bs_list]; rfl
  have HP : Hid (∀ v, Un v → Calls Tryz.prog 7 #[.agg (OC awO)] v fun e w' => e = .returned (.string y) ∧ Below v.heap.size v w') := fun v hv => by
    have := printOp_any awO v aw_ok hv.t hv.s
    rw [aw_line, ← hy] at this
    exact this
  have heq : ∀ w, (Op.equalIn 10000 24 (.agg (OC awO)) (.agg #[.int .i64 1, .int .i64 0, .int .i64 2, .int .i64 0, .string ⟨#[84, 69, 65, 45, 49]⟩, .int .i64 5, .int .i64 0])).run Tryz.prog w = .ok true w := fun w => by
    have := run_eqO awO awO w
    rw [(eqO_iff _ _).2 rfl] at this
    exact this
  have HU := hide hu
  clear hu hy
  go_enter Tryz.func4, Tryz.ntmps4
  go_wp2_with (first | (go_at_call 5; refine HC.out.mono ?_; rintro e w1 ⟨rfl, b1⟩; obtain ⟨w2, hst, hx2, hb2, -⟩ := madeO w1 awO w1.heap.size rfl; have hst' : (stO (.pointer (some ⟨w1.heap.size, 0, none⟩)) (.agg (OC awO))).run Tryz.prog (w1.alloc (.cells #[.int .i64 0, .int .i64 0, .int .i64 0, .int .i64 0, .string ⟨#[]⟩, .int .i64 0, .int .i64 0] 24)) = .ok () w2 := hst; have hld := run_ldO hx2; have HB2 := hide (b1.trans (hb2.mono b1.size)); clear hst hx2 hb2) | (go_at_call 7; refine (HP.out _ (HU.out.on HB2.out)).mono ?_; rintro e w3 ⟨rfl, b3⟩))
  go_ret
  exact ⟨rfl, HB2.out.trans (b3.mono HB2.out.size)⟩
end Go.Proofs.YtpnnlfhknnnfhaaGreatDoor
