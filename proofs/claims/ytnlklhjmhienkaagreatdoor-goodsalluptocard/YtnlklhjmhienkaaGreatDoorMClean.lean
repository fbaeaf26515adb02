/- markOf, joinMarks, capital, Clean: their contracts. -/
import Derived.Test.YtnlklhjmhienkaaGreatDoorMOwn
namespace Go.Proofs.YtnlklhjmhienkaaGreatDoor.M
open Go.RowKit

def mo (c : UInt8) : UInt8 := if c = 32 ∨ c = 9 ∨ c = 95 ∨ c = 47 ∨ c = 45 then 45 else if c = 46 then 46 else 0
def jm (a b : UInt8) : UInt8 := if a = 46 then a else b
def up (c : UInt8) : UInt8 := if 97 ≤ c ∧ c ≤ 122 then c - 32 else c
def cstep (st : List UInt8 × UInt8) (c : UInt8) : List UInt8 × UInt8 :=
  if mo c ≠ 0 then (st.1, jm st.2 (mo c)) else (if st.2 ≠ 0 ∧ st.1 ≠ [] then st.1 ++ [st.2] ++ [up c] else st.1 ++ [up c], 0)
def crun (l : List UInt8) : List UInt8 × UInt8 := l.foldl cstep ([], 0)
def ascii (l : List UInt8) : Bool := l.all (fun c => decide (c.toNat < 128))
def clE (l : List UInt8) : Int := if 96 < l.length then 21 else if ascii l = true then ckE (crun l).1 else 22
def clS (l : List UInt8) : List UInt8 := if clE l = 0 then (crun l).1 else []

theorem u8_eq_iff (c d : UInt8) : c = d ↔ (c.toNat : Int) = (d.toNat : Int) := by
  constructor
  · intro h; rw [h]
  · intro h; exact UInt8.toNat.inj (by omega)
theorem ret_u8 {a b : Int} (h : a = b) : Ending.returned (.int .u8 a) = .returned (.int .u8 b) := by rw [h]

set_option maxHeartbeats 1600000 in
theorem markOf_any (c : UInt8) (w : World) : Calls Tryz.prog 51 #[.int .i32 (c.toNat : Int)] w fun e w' => e = .returned (.int .u8 ((mo c).toNat : Int)) ∧ w' = w := by
  by_cases h : c = 32 ∨ c = 9 ∨ c = 95 ∨ c = 47 ∨ c = 45
  · have HM : Hid ((45 : Int) = ((mo c).toNat : Int)) := by show _ = _; unfold mo; rw [if_pos h]; rfl
    rcases h with h | h | h | h | h
    all_goals
      subst h
      go_enter Tryz.func51, Tryz.ntmps51
      go_wp2
      go_ret
      exact ⟨ret_u8 HM.out, rfl⟩
  · by_cases h2 : c = 46
    · subst h2
      go_enter Tryz.func51, Tryz.ntmps51
      go_wp2
      go_ret
      exact ⟨ret_u8 rfl, rfl⟩
    · have HM : Hid ((0 : Int) = ((mo c).toNat : Int)) := by show _ = _; unfold mo; rw [if_neg h, if_neg h2]; rfl
      simp only [not_or, u8_eq_iff] at h h2
      obtain ⟨a1, a2, a3, a4, a5⟩ := h
      have b1 : ((c.toNat : Int) == 32) = false := by simpa using a1
      have b2 : ((c.toNat : Int) == 9) = false := by simpa using a2
      have b3 : ((c.toNat : Int) == 95) = false := by simpa using a3
      have b4 : ((c.toNat : Int) == 47) = false := by simpa using a4
      have b5 : ((c.toNat : Int) == 45) = false := by simpa using a5
      have b6 : ((c.toNat : Int) == 46) = false := by simpa using h2
      clear a1 a2 a3 a4 a5 h2
      go_enter Tryz.func51, Tryz.ntmps51
      go_wp2
      go_ret
      exact ⟨ret_u8 HM.out, rfl⟩

theorem joinMarks_any (a b : UInt8) (w : World) : Calls Tryz.prog 52 #[.int .u8 (a.toNat : Int), .int .u8 (b.toNat : Int)] w fun e w' => e = .returned (.int .u8 ((jm a b).toNat : Int)) ∧ w' = w := by
  by_cases h : a = 46
  · have HM : Hid ((a.toNat : Int) = ((jm a b).toNat : Int)) := by show _ = _; unfold jm; rw [if_pos h]
    have h' : ((a.toNat : Int) == 46) = true := by rw [h]; rfl
    clear h
    go_enter Tryz.func52, Tryz.ntmps52
    go_wp2
    go_ret
    exact ⟨ret_u8 HM.out, rfl⟩
  · have HM : Hid ((b.toNat : Int) = ((jm a b).toNat : Int)) := by show _ = _; unfold jm; rw [if_neg h]
    rw [u8_eq_iff] at h
    have h' : ((a.toNat : Int) == 46) = false := by simpa using h
    clear h
    go_enter Tryz.func52, Tryz.ntmps52
    go_wp2
    go_ret
    exact ⟨ret_u8 HM.out, rfl⟩

theorem capital_any (c : UInt8) (w : World) (hc : c.toNat < 128) : Calls Tryz.prog 53 #[.int .i32 (c.toNat : Int)] w fun e w' => e = .returned (.int .u8 ((up c).toNat : Int)) ∧ w' = w := by
  obtain ⟨x, hx⟩ : ∃ x : Int, (c.toNat : Int) = x := ⟨_, rfl⟩
  have hx0 : 0 ≤ x ∧ x < 128 := by omega
  by_cases h : 97 ≤ x
  · by_cases h2 : x ≤ 122
    · have HM : Hid (x - 32 = ((up c).toNat : Int)) := by
        show _ = _
        unfold up
        rw [if_pos (by rw [UInt8.le_iff_toNat_le, UInt8.le_iff_toNat_le]; exact ⟨by show 97 ≤ c.toNat; omega, by show c.toNat ≤ 122; omega⟩), UInt8.toNat_sub_of_le _ _ (by rw [UInt8.le_iff_toNat_le]; show 32 ≤ c.toNat; omega)]
        show x - 32 = ((c.toNat - 32 : Nat) : Int)
        omega
      have hw := wrap8 (x - 32) (by omega) (by omega)
      rw [hx]
      clear hx
      go_enter Tryz.func53, Tryz.ntmps53
      go_wp2
      go_ret
      exact ⟨ret_u8 HM.out, rfl⟩
    · have HM : Hid (x = ((up c).toNat : Int)) := by
        show _ = _
        unfold up
        rw [if_neg (by rw [UInt8.le_iff_toNat_le, UInt8.le_iff_toNat_le]; intro hh; have : c.toNat ≤ 122 := hh.2; omega)]
        exact hx.symm
      have hw := wrap8 x (by omega) (by omega)
      rw [hx]
      clear hx
      go_enter Tryz.func53, Tryz.ntmps53
      go_wp2
      go_ret
      exact ⟨ret_u8 HM.out, rfl⟩
  · have HM : Hid (x = ((up c).toNat : Int)) := by
      show _ = _
      unfold up
      rw [if_neg (by rw [UInt8.le_iff_toNat_le, UInt8.le_iff_toNat_le]; intro hh; have : 97 ≤ c.toNat := hh.1; omega)]
      exact hx.symm
    have hw := wrap8 x (by omega) (by omega)
    rw [hx]
    clear hx
    go_enter Tryz.func53, Tryz.ntmps53
    go_wp2
    go_ret
    exact ⟨ret_u8 HM.out, rfl⟩
end Go.Proofs.YtnlklhjmhienkaaGreatDoor.M
