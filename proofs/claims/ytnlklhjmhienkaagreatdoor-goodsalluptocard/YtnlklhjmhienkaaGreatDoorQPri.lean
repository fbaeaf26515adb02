/- The reference's PrintQty: its contract. -/
import Derived.Test.YtnlklhjmhienkaaGreatDoorQPar
namespace Go.Proofs.YtnlklhjmhienkaaGreatDoor.Q
open Go.RowKit

/-- PrintQty's answer -/
def prE (n : Int) : Int := if 1 ≤ n ∧ n ≤ 1000000 then 0 else 6
def prS (n : Int) : ByteArray := if 1 ≤ n ∧ n ≤ 1000000 then bs (Lib.decDigits n.toNat) else ⟨#[]⟩
def dd (n : Nat) : List UInt8 := if n = 0 then [] else Lib.decDigits n
theorem dd_step (n : Nat) (h : 0 < n) : dd n = dd (n / 10) ++ [UInt8.ofNat (48 + n % 10)] := by
  unfold dd
  rw [if_neg (by omega)]
  by_cases h10 : n < 10
  · rw [if_pos (by omega), Lib.decDigits, dif_pos h10, Nat.mod_eq_of_lt h10]; rfl
  · rw [if_neg (by omega)]
    conv => lhs; rw [Lib.decDigits]
    rw [dif_neg h10]
theorem bs_app (a b : List UInt8) : bs a ++ bs b = bs (a ++ b) := by
  apply ByteArray.ext
  simp [bs, ByteArray.data_append]
theorem one_text (W : World) (c : UInt8) : (convert 59 9 (.slice (some ⟨W.heap.size, 0, none⟩) 1 1)).run Tryz.prog (W.alloc (.cells #[.int .u8 (c.toNat : Int)] 5)) = .ok (.string (bs [c])) (W.alloc (.cells #[.int .u8 (c.toNat : Int)] 5)) := by
  refine run_convert_bytes_back (W.alloc (.cells #[.int .u8 (c.toNat : Int)] 5)) 59 9 5 ⟨W.heap.size, 0, none⟩ 1 [c] Tryz.underlying59 Tryz.underlying5 Tryz.underlying9 (fun j hj => ?_)
  have : j = 0 := by simpa using hj
  subst this
  rw [Addr.add_lit, Nat.zero_add, World.cell?_alloc_new]; simp
set_option maxRecDepth 100000 in
set_option maxHeartbeats 1600000 in
theorem refPrint_any (n : Int) (w : World) : Calls Tryz.prog 43 #[.int .i64 n] w fun e w' => e = .returned (.tuple #[.string (prS n), .int .i64 (prE n)]) ∧ Below w.heap.size w w' := by
  by_cases h1 : n < 1
  · have HE : Hid (prE n = 6) := by show _ = _; unfold prE; rw [if_neg (by omega)]
    have HP : Hid (prS n = ⟨#[]⟩) := by show _ = _; unfold prS; rw [if_neg (by omega)]
    go_enter Tryz.func43, Tryz.ntmps43
    go_wp2
    go_ret2
    exact ⟨by rw [HE.out, HP.out]; rfl, Below.refl _ _⟩
  by_cases h2 : 1000000 < n
  · have HE : Hid (prE n = 6) := by show _ = _; unfold prE; rw [if_neg (by omega)]
    have HP : Hid (prS n = ⟨#[]⟩) := by show _ = _; unfold prS; rw [if_neg (by omega)]
    go_enter Tryz.func43, Tryz.ntmps43
    go_wp2
    go_ret2
    exact ⟨by rw [HE.out, HP.out]; rfl, Below.refl _ _⟩
  have HE : Hid (prE n = 0) := by show _ = _; unfold prE; rw [if_pos (by omega)]
  have HP : Hid (prS n = bs (dd n.toNat)) := by show _ = _; unfold prS dd; rw [if_pos (by omega), if_neg (by omega)]
  obtain ⟨u, rfl⟩ : ∃ u : Nat, n = (u : Int) := ⟨n.toNat, by omega⟩
  rw [Int.toNat_natCast] at HP
  go_enter Tryz.func43, Tryz.ntmps43
  go_wp2
  go_loopw [0, 4] (fun v t wr => ∃ (m : Nat) (l : List UInt8), m ≤ 1000000 ∧ l.length + m ≤ 1000100 ∧ v = .int .i64 (m : Int) ∧ t = .string (bs l) ∧ Hid (dd u = dd m ++ l) ∧ Hid (Below w.heap.size w wr)) (fun v _ _ => (intOf v).toNat)
  case atStart => exact ⟨u, [], by omega, by simp; omega, rfl, rfl, by show _ = _; simp, Below.refl _ _⟩
  case round =>
    obtain ⟨m, l, hm, hlm, rfl, rfl, HD, HB⟩ := hrel
    by_cases h0 : 0 < m
    · have h0' : (0 : Int) < m := by omega
      obtain ⟨c, hc⟩ : ∃ c, UInt8.ofNat (48 + m % 10) = c := ⟨_, rfl⟩
      have hcn : (c.toNat : Int) = 48 + (m : Int) % 10 := by rw [← hc]; simp [UInt8.toNat_ofNat']; omega
      have HN : Hid (dd u = dd (m / 10) ++ (c :: l)) := by show _ = _; rw [HD.out, dd_step m h0, hc, List.append_assoc]; rfl
      have htx := one_text wr c
      have hw := wrap8 (48 + (m : Int) % 10) (by omega) (by omega)
      have HB2 : Hid (Below w.heap.size w (wr.alloc (.cells #[.int .u8 (c.toNat : Int)] 5))) := HB.out.alloc HB.out.size _
      have happ := bs_app [c] l
      have hs1 : (bs [c]).size = 1 := bs_size _
      have hs2 : (bs l).size = l.length := bs_size _
      have hs3 : (bs (c :: l)).size = l.length + 1 := bs_size _
      rw [hcn] at htx HB2
      clear hc hcn
      go_wp2
      go_roundw
      case rel => exact ⟨m / 10, c :: l, by omega, by simp; omega, by go_num, rfl, HN, HB2⟩
      case measure => simp [intOf]; omega
    · obtain rfl : m = 0 := by omega
      have HF : Hid (dd u = l) := by show _ = _; rw [HD.out]; rfl
      go_wp2
      go_ret2
      exact ⟨by rw [HE.out, HP.out, HF.out]; rfl, HB.out⟩
end Go.Proofs.YtnlklhjmhienkaaGreatDoor.Q
