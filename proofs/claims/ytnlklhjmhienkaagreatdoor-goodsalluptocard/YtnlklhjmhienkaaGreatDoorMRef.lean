/- The reference's fits and Match: their contracts. -/
import Derived.Test.YtnlklhjmhienkaaGreatDoorMMeets
import Derived.Test.YtnlklhjmhienkaaGreatDoorMRSku
import Derived.Laws.MakeOwn
import Derived.Laws.CopyOwn
namespace Go.Proofs.YtnlklhjmhienkaaGreatDoor.M
open Go.RowKit

theorem refFits_any (b c : UInt8) (w : World) : Calls Tryz.prog 65 #[.int .u8 (b.toNat : Int), .int .u8 (c.toNat : Int)] w fun e w' => e = .returned (.bool (fit b c)) ∧ w' = w := by
  by_cases h1 : b = 63
  · subst h1
    go_enter Tryz.func65, Tryz.ntmps65
    go_wp2
    go_ret
    exact ⟨rfl, rfl⟩
  · have e1 := ne_bool (n := 63) rfl h1
    by_cases h2 : b = 35
    · subst h2
      go_enter Tryz.func65, Tryz.ntmps65
      go_wp2_with (go_at_call 37; refine (refDigit_any c _).mono ?_; rintro e w' ⟨rfl, rfl⟩)
      go_ret
      exact ⟨rfl, rfl⟩
    · have e2 := ne_bool (n := 35) rfl h2
      by_cases h3 : b = 64
      · subst h3
        go_enter Tryz.func65, Tryz.ntmps65
        go_wp2_with (go_at_call 63; refine (refLetter_any c _).mono ?_; rintro e w' ⟨rfl, rfl⟩)
        go_ret
        exact ⟨rfl, rfl⟩
      · have e3 := ne_bool (n := 64) rfl h3
        have HF : Hid (((b.toNat : Int) == (c.toNat : Int)) = fit b c) := by show _ = _; unfold fit; rw [if_neg h1, if_neg h2, if_neg h3, eq_bool]
        clear h1 h2 h3
        go_enter Tryz.func65, Tryz.ntmps65
        go_wp2
        go_ret
        exact ⟨ret_bool HF.out, rfl⟩

/-- a row of n truths -/
def bvs (R : Nat → Bool) (n : Nat) : Array Value := ((List.range n).map (fun j => Value.bool (R j))).toArray
theorem bvs_size (R : Nat → Bool) (n : Nat) : (bvs R n).size = n := by simp [bvs]
/-- the block g holds these n truths -/
def BR (w : World) (g n : Nat) (R : Nat → Bool) : Prop := w.heap[g]? = some (.cells (bvs R n) 4 (0, 0))
theorem BR.lt {w : World} {g n : Nat} {R : Nat → Bool} (h : BR w g n R) : g < w.heap.size := (Array.getElem?_eq_some_iff.1 h).1
theorem BR.cell {w : World} {g n : Nat} {R : Nat → Bool} (h : BR w g n R) (j : Nat) (hj : j < n) : w.cell? ⟨g, j, none⟩ = some (.bool (R j)) := by
  unfold BR at h
  rw [cell_of_row w g j _ 4 _ h]; simp [bvs, hj]
theorem BR.frozen {w : World} {g n : Nat} {R : Nat → Bool} (h : BR w g n R) (j : Nat) : w.frozen? ⟨g, j, none⟩ = false := frozen_of_row w g j _ 4 h
theorem BR.set {w : World} {g n : Nat} {R : Nat → Bool} (h : BR w g n R) (j : Nat) (v : Bool) : BR (w.setCell ⟨g, j, none⟩ (.bool v)) g n (fun i => if i = j then v else R i) := by
  unfold BR at h ⊢
  rw [heap_setCell_same w g j _ 4 _ h]
  congr 2
  apply Array.ext
  · simp [bvs]
  · intro i h1 h2
    simp only [bvs_size] at h2
    rw [Array.getElem_setIfInBounds (by simp [bvs]; exact h2)]
    by_cases hij : j = i
    · subst hij; simp [bvs]
    · rw [if_neg hij]; simp [bvs, Ne.symm hij]
theorem BR.other {w : World} {g n : Nat} {R : Nat → Bool} (h : BR w g n R) (a : Addr) (v : Value) (hne : g ≠ a.block) : BR (w.setCell a v) g n R := by
  unfold BR at h ⊢
  rw [heap_setCell_other w a g v hne]; exact h
theorem BR.congr {w : World} {g n : Nat} {R S : Nat → Bool} (h : BR w g n R) (e : ∀ j, j < n → R j = S j) : BR w g n S := by
  unfold BR at h ⊢
  have : bvs R n = bvs S n := by
    unfold bvs; congr 1; apply List.map_congr_left; intro j hj; rw [e j (by simpa using hj)]
  rw [← this]; exact h
theorem BR.below {w w' : World} {g n : Nat} {R : Nat → Bool} (h : BR w g n R) (hb : Below w.heap.size w w') : BR w' g n R := (hb.block g h.lt).trans h
theorem below_setC {w w' : World} {n : Nat} {a : Addr} {v : Value} (h : Below n w w') (hg : n ≤ a.block) : Below n w (w'.setCell a v) :=
  h.trans ⟨rfl, rfl, rfl, by simp [World.setCell], fun k hk => by simp [World.setCell, Array.getElem?_modify, show ¬ a.block = k by omega]⟩
theorem info4 : (Tryz.prog.info? 4).map (fun i => (i.zero, i.size, i.bytes)) = some (some (.bool false), 1, 1) := by kernel_rfl
theorem madeF (n : Nat) : madeCells #[Value.bool false] n = bvs (fun _ => false) n := by
  apply Array.ext
  · simp [madeCells, bvs]
  · intro i h1 h2
    simp [madeCells, bvs, Nat.mod_one]
def mkB (a b : Value) : Sem Value := Instr.makeSlice 68 a b
theorem mkB_eq (a b : Value) : Instr.makeSlice 68 a b = mkB a b := rfl
theorem run_mkB (w : World) (n : Nat) (hn : n ≤ 100) : (mkB (.int .i64 (n : Int)) (.int .i64 (n : Int))).run Tryz.prog w = .ok (.slice (some ⟨w.heap.size, 0, none⟩) n n) (w.alloc (.cells (bvs (fun _ => false) n) 4)) := by
  obtain ⟨i0, hi, hz0, hz1, hz2⟩ := info_parts info4
  have h := run_make (P := Tryz.prog) w 68 4 i0 (.bool false) Tryz.underlying68 hi hz0 .i64 .i64 (n : Int) (n : Int) (by omega) (by omega) (by rw [hz2]; omega) (by omega)
  rw [hz1, Int.toNat_natCast, Nat.mul_one] at h
  have hcl : (Value.bool false).cells = #[Value.bool false] := rfl
  rw [hcl, madeF] at h
  exact h
theorem made_BR (w : World) (n : Nat) : BR (w.alloc (.cells (bvs (fun _ => false) n) 4)) w.heap.size n (fun _ => false) := by unfold BR; rw [heap_alloc_new]
/-- Match's answer -/
def maE (p s : ByteArray) : Int := if 48 < p.size then 21 else if p.data.toList.all pb = true then (if good s.data.toList = true then 0 else 5) else 22
def maB (p s : ByteArray) : Bool := if maE p s = 0 then rrun p.data.toList s.data.toList s.size else false
end Go.Proofs.YtnlklhjmhienkaaGreatDoor.M
