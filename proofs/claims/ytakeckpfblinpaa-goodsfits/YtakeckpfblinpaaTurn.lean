/- turned and Digit: their contracts; a block of bytes as a list. -/
import Derived.Test.YtakeckpfblinpaaCdPlain
namespace Go.Proofs.Ytakeckpfblinpaa
open Go.RowKit

theorem info5 : (Try.prog.info? 5).map (fun i => (i.zero, i.size, i.bytes)) = some (some (.int .u8 0), 1, 1) := by kernel_rfl

def V8 (c : UInt8) : Value := .int .u8 (c.toNat : Int)
/-- the block g holds just these bytes -/
def Blk (w : World) (g : Nat) (L : List UInt8) : Prop := w.heap[g]? = some (.cells (L.map V8).toArray 5 (0, 0))
theorem Blk.lt {w : World} {g : Nat} {L : List UInt8} (h : Blk w g L) : g < w.heap.size := by
  unfold Blk at h
  rcases Nat.lt_or_ge g w.heap.size with h' | h'
  · exact h'
  · rw [Array.getElem?_eq_none h'] at h; cases h
theorem Blk.cell {w : World} {g : Nat} {L : List UInt8} (h : Blk w g L) (t : Nat) (ht : t < L.length) : w.cell? ⟨g, t, none⟩ = some (.int .u8 ((L[t]).toNat : Int)) := by
  unfold Blk at h
  simp [World.cell?, h, ht, V8]
theorem Blk.frozen {w : World} {g : Nat} {L : List UInt8} (h : Blk w g L) (t : Nat) : w.frozen? ⟨g, t, none⟩ = false := by
  unfold Blk at h
  simp [World.frozen?, h]
theorem Blk.set {w : World} {g : Nat} {L : List UInt8} (h : Blk w g L) (t : Nat) (c : UInt8) : Blk (w.setCell ⟨g, t, none⟩ (.int .u8 (c.toNat : Int))) g (L.set t c) := by
  unfold Blk at h ⊢
  simp [World.setCell, h, Array.getElem?_modify, List.map_set, V8]
theorem Blk.below {w w' : World} {B g : Nat} {L : List UInt8} (h : Blk w g L) (hb : Below B w w') (hg : g < B) : Blk w' g L := (hb.block g hg).trans h
theorem Blk.alloc {w : World} {g : Nat} {L : List UInt8} (h : Blk w g L) (o : Obj) : Blk (w.alloc o) g L := (Below.heap_alloc w o g h.lt).trans h
/-- string(b) -/
theorem Blk.text {w : World} {g : Nat} {L : List UInt8} {n : Nat} (h : Blk w g L) (hn : L.length = n) : (convert 30 9 (.slice (some ⟨g, 0, none⟩) n n)).run Try.prog w = .ok (.string (bs L)) w := by
  subst hn
  refine run_convert_bytes_back w 30 9 5 ⟨g, 0, none⟩ L.length L Try.underlying30 Try.underlying5 Try.underlying9 (fun j hj => ?_)
  rw [Addr.add_lit, Nat.zero_add]
  exact h.cell j hj

theorem u64_rng (x : Int) : 0 ≤ IntKind.u64.wrap x ∧ IntKind.u64.wrap x ≤ 18446744073709551615 := by
  simp [IntKind.wrap, IntKind.bits, IntKind.signed]; omega
theorem madeBytes (n : Nat) : madeCells #[Value.int .u8 0] n = ((List.replicate n (0 : UInt8)).map V8).toArray := by
  apply Array.ext
  · simp [madeCells]
  · intro i h1 h2
    simp [madeCells, Nat.mod_one, V8]

set_option maxHeartbeats 1600000 in
theorem turned_any (q0 : Int) (n : Nat) (w : World) (hq0 : 0 ≤ q0) (hq1 : q0 ≤ 18446744073709551615) (hn : n ≤ 13) :
    Calls Try.prog 11 #[.int .u64 q0, .int .i64 n] w fun e w' => ∃ L : List UInt8, e = .returned (.slice (some ⟨w.heap.size, 0, none⟩) n n) ∧ L.length = n ∧ L.all dig = true ∧ Blk w' w.heap.size L ∧ Below w.heap.size w w' := by
  have hmk : ∀ u : World, (Instr.makeSlice 30 (.int .i64 (n : Int)) (.int .i64 (n : Int))).run Try.prog u = .ok (.slice (some ⟨u.heap.size, 0, none⟩) n n) (u.alloc (.cells (madeCells #[.int .u8 0] n) 5)) := fun u => by
    obtain ⟨i0, hi, hz0, hz1, hz2⟩ := info_parts info5
    have h := run_make (P := Try.prog) u 30 5 i0 (.int .u8 0) Try.underlying30 hi hz0 .i64 .i64 (n : Int) (n : Int) (by omega) (Int.le_refl _) (by rw [hz2]; omega) (by omega)
    simpa [hz1, Value.cells] using h
  have HB : Hid (Blk (w.alloc (.cells (madeCells #[.int .u8 0] n) 5)) w.heap.size (List.replicate n 0)) := by
    show Blk _ _ _
    unfold Blk; rw [heap_alloc_new, madeBytes]
  go_enter Try.func11, Try.ntmps11
  go_wp2
  go_loopw [0, 6] (fun s i wr => ∃ (k : Nat) (q : Int) (L : List UInt8), k ≤ n ∧ 0 ≤ q ∧ q ≤ 18446744073709551615 ∧ s = .int .u64 q ∧ i = .int .i64 k ∧ L.length = n ∧ (L.take k).all dig = true ∧ Blk wr w.heap.size L ∧ Below w.heap.size w wr) (fun _ i _ => n - (intOf i).toNat)
  case atStart => exact ⟨0, q0, _, Nat.zero_le _, hq0, hq1, rfl, rfl, by simp, rfl, HB.out, (Below.refl _ _).alloc (Nat.le_refl _) _⟩
  case round =>
    obtain ⟨k, q, L, hk, h0, h1, rfl, rfl, hL, hall, hblk, hb⟩ := hrel
    have HALL := hide hall
    have HL := hide hL
    clear hall hmk
    by_cases hlt : k < n
    · obtain ⟨z, hc⟩ : ∃ z : Int, wr.cell? ⟨w.heap.size, k, none⟩ = some (.int .u8 z) := ⟨_, hblk.cell k (by omega)⟩
      have hf := hblk.frozen k
      have hw1 : IntKind.u64.wrap (q % 10) = q % 10 := by simp [IntKind.wrap, IntKind.bits, IntKind.signed]; omega
      have hw2 : IntKind.u64.wrap (48 + q % 10) = 48 + q % 10 := by simp [IntKind.wrap, IntKind.bits, IntKind.signed]; omega
      have hw3 := wrap8 (48 + q % 10) (by omega) (by omega)
      have hR : Hid (∃ c : UInt8, (c.toNat : Int) = 48 + q % 10 ∧ dig c = true) := ⟨dg (q % 10).toNat, by rw [dg_nat _ (by omega)]; omega, dg_dig _ (by omega)⟩
      clear hL
      go_wp2
      go_roundw
      case rel =>
        obtain ⟨c, hc1, hc2⟩ := hR.out
        refine ⟨k + 1, _, L.set k c, by omega, ?_, ?_, rfl, by go_num, by rw [List.length_set]; exact HL.out, ?_, by rw [← hc1]; exact hblk.set k c, hb.setCell (by simp) _⟩
        · first | exact (u64_rng _).1 | omega
        · first | exact (u64_rng _).2 | omega
        · have hkL : k < L.length := by rw [HL.out]; exact hlt
          rw [List.take_succ_eq_append_getElem (by simpa using hkL), List.take_set, List.set_eq_of_length_le (by simp; omega), List.all_append, HALL.out]
          simp [hc2]
      case measure => simp [intOf]; omega
    · have ek : L.take k = L := List.take_of_length_le (by omega)
      rw [ek] at HALL
      clear ek
      go_wp2
      go_ret
      exact ⟨L, rfl, HL.out, HALL.out, hblk, hb⟩

set_option maxHeartbeats 800000 in
theorem digit_ok (L : List UInt8) (w : World) (hn : L.length = 7 ∨ L.length = 11 ∨ L.length = 12 ∨ L.length = 13) (hd : L.all dig = true) :
    Calls Try.prog 12 #[.string (bs L)] w fun e w' => e = .returned (.tuple #[.int .i64 (chk (bs L)), .int .i64 0]) ∧ Below w.heap.size w w' := by
  have H0 : Hid (nf (bs L) [7, 11, 12, 13] = 0) := by
    refine nf_ok _ _ (by omega) ?_ ?_ hd
    · simp [List.getD]; omega
    · rcases hn with h | h | h | h <;> (rw [h]; decide)
  have HS : Hid ((bs L).size ≤ 13) := by show _ ≤ _; rw [bs_size]; omega
  have HM : Hid ((bs L).size ≤ maxLen) := by show _ ≤ _; unfold maxLen; have := HS.out; omega
  have HD : Hid (allDig (bs L) = true) := by show _ = _; rw [allDig_bs]; exact hd
  clear hn hd
  go_enter Try.func12, Try.ntmps12
  go_wp2_with (first | (go_at_call 21; refine (numberFault_any (bs L) 7 11 12 13 _ HM.out).mono ?_; rintro e w1 ⟨rfl, hb1⟩; rw [H0.out]) | (go_at_call 22; refine (checkDigit_any (bs L) _ HS.out HD.out).mono ?_; rintro e w2 ⟨rfl, hb2⟩))
  go_ret2
  exact ⟨rfl, below_on hb1 (Nat.le_refl _) hb2⟩
end Go.Proofs.Ytakeckpfblinpaa
