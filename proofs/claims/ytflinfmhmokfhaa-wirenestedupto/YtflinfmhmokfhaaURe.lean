/- wire's reader in memory: giveUp, mayRead, Num, Left. -/
import Derived.Test.YtflinfmhmokfhaaUNv
import Derived.WalkLawsBesides
namespace Go.Proofs.Ytflinfmhmokfhaa
open Go.RowKit
variable {w w' w2 : World} {g : Nat}

abbrev ptr (g : Nat) : Value := .pointer (some ⟨g, 0, none⟩)
/-- a reader: what is left, by which error it gave up, is it over? -/
def Rdr (w : World) (g : Nat) (ro : Option Addr) (rn rc : Nat) (gave : Int) (over : Bool) : Prop := w.heap[g]? = some (.cells #[.slice ro rn rc, .int .i64 gave, .bool over] 59 (0, 0))
variable {ro so : Option Addr} {rn rc sn sc : Nat} {gave : Int} {over : Bool} {Z : List Int}
theorem Rdr.c0 (h : Rdr w g ro rn rc gave over) : w.cell? ⟨g, 0, none⟩ = some (.slice ro rn rc) := by unfold Rdr at h; simp [World.cell?, h]
theorem Rdr.c1 (h : Rdr w g ro rn rc gave over) : w.cell? ⟨g, 1, none⟩ = some (.int .i64 gave) := by unfold Rdr at h; simp [World.cell?, h]
theorem Rdr.c2 (h : Rdr w g ro rn rc gave over) : w.cell? ⟨g, 2, none⟩ = some (.bool over) := by unfold Rdr at h; simp [World.cell?, h]
theorem Rdr.z (h : Rdr w g ro rn rc gave over) (j : Nat) : w.frozen? ⟨g, j, none⟩ = false := by unfold Rdr at h; simp [World.frozen?, h]
theorem Rdr.lt (h : Rdr w g ro rn rc gave over) : g < w.heap.size := (Array.getElem?_eq_some_iff.1 h).1
theorem set_heap (w : World) (g : Nat) (cs : Array Value) (t : TypeId) (f : Nat × Nat) (j : Nat) (v : Value) (h : w.heap[g]? = some (.cells cs t f)) : (w.setCell ⟨g, j, none⟩ v).heap[g]? = some (.cells (cs.setIfInBounds j v) t f) := by
  simp [World.setCell, h, Array.getElem?_modify, Array.setIfInBounds]
theorem set_other (w : World) (g j k : Nat) (v : Value) (hk : k ≠ g) : (w.setCell ⟨g, j, none⟩ v).heap[k]? = w.heap[k]? := by
  unfold World.setCell
  simp only
  split <;> simp [Array.getElem?_modify, Ne.symm hk]
theorem set_size (w : World) (g j : Nat) (v : Value) : (w.setCell ⟨g, j, none⟩ v).heap.size = w.heap.size := by
  unfold World.setCell
  simp only
  split <;> simp
theorem Rdr.set0 (h : Rdr w g ro rn rc gave over) (so : Option Addr) (sn sc : Nat) : Rdr (w.setCell ⟨g, 0, none⟩ (.slice so sn sc)) g so sn sc gave over := set_heap w g _ _ _ 0 _ h
theorem Rdr.set1 (h : Rdr w g ro rn rc gave over) (e : Int) : Rdr (w.setCell ⟨g, 1, none⟩ (.int .i64 e)) g ro rn rc e over := set_heap w g _ _ _ 1 _ h
theorem Rdr.set2 (h : Rdr w g ro rn rc gave over) (b : Bool) : Rdr (w.setCell ⟨g, 2, none⟩ (.bool b)) g ro rn rc gave b := set_heap w g _ _ _ 2 _ h
/-- its block alone may have been written -/
structure Kg (w w' : World) (g : Nat) : Prop where
  os : w'.os = w.os
  tape : w'.tape = w.tape
  output : w'.output = w.output
  size : w.heap.size ≤ w'.heap.size
  block : ∀ k, k < w.heap.size → k ≠ g → w'.heap[k]? = w.heap[k]?
theorem Kg.refl (w : World) (g : Nat) : Kg w w g := ⟨rfl, rfl, rfl, Nat.le_refl _, fun _ _ _ => rfl⟩
theorem Kg.of_below (h : Below w.heap.size w w') : Kg w w' g := ⟨h.os, h.tape, h.output, h.size, fun k hk _ => h.block k hk⟩
theorem Kg.trans (h : Kg w w' g) (k : Kg w' w2 g) : Kg w w2 g := ⟨k.os.trans h.os, k.tape.trans h.tape, k.output.trans h.output, Nat.le_trans h.size k.size, fun i hi hn => (k.block i (Nat.lt_of_lt_of_le hi h.size) hn).trans (h.block i hi hn)⟩
theorem setCell_os (w : World) (a : Addr) (v : Value) : (w.setCell a v).os = w.os := by
  unfold World.setCell
  split <;> rfl
theorem setCell_tape (w : World) (a : Addr) (v : Value) : (w.setCell a v).tape = w.tape := by
  unfold World.setCell
  split <;> rfl
theorem setCell_output (w : World) (a : Addr) (v : Value) : (w.setCell a v).output = w.output := by
  unfold World.setCell
  split <;> rfl
theorem Kg.set (h : Kg w w' g) (j : Nat) (v : Value) : Kg w (w'.setCell ⟨g, j, none⟩ v) g :=
  ⟨(setCell_os _ _ _).trans h.os, (setCell_tape _ _ _).trans h.tape, (setCell_output _ _ _).trans h.output, by rw [set_size]; exact h.size, fun k hk hn => (set_other w' g j k v hn).trans (h.block k hk hn)⟩
theorem Src.kg {m c : Nat} (S : Src w so m c Z) (h : Kg w w' g) (hne : m ≠ 0 → blk so ≠ some g) : Src w' so m c Z :=
  ⟨S.1, S.2.1, fun ad ha t ht => by
    have hc := S.2.2.1 ad ha t ht
    have hl := World.block_lt_of_cell? w _ hc
    rw [World.cell?_of_block (h.block _ hl (fun e => hne (by omega) (by rw [ha, ← e, block_of_add]; rfl)))]
    exact hc, S.2.2.2⟩
/-- a reader that reads on -/
structure RL (w : World) (g : Nat) (ro : Option Addr) (rn rc : Nat) (Z : List Int) : Prop where
  r : Rdr w g ro rn rc 0 false
  s : Src w ro rn rc Z
  cap : rn ≤ rc
  big : rn ≤ 140737488355328
  ne : rn ≠ 0 → blk ro ≠ some g
theorem RL.len (R : RL w g ro rn rc Z) : Z.length = rn := R.s.1
theorem RL.kg_below (R : RL w g ro rn rc Z) (hb : Below w.heap.size w w') : RL w' g ro rn rc Z := ⟨(hb.block g R.r.lt).trans R.r, R.s.below hb, R.cap, R.big, R.ne⟩
/-- the panic by which it gives up -/
abbrev upV (g : Nat) : Value := .iface 79 (.agg #[ptr g])
abbrev ups (g : Nat) : List PanicEntry := [{ v := upV g, recovered := false }]
/-- what is left behind where it gave up -/
def Gave (w w' : World) (g : Nat) (e : Int) : Prop := Rdr w' g none 0 0 e false ∧ Kg w w' g
theorem giveUp_any (R : Rdr w g ro rn rc gave over) (e : Int) : Calls Try.prog 42 #[ptr g, .int .i64 e] w fun r w' => r = .panicked (ups g) ∧ Rdr w' g none 0 0 e over ∧ Kg w w' g := by
  have z0 := R.z 0
  have z1 := (R.set0 none 0 0).z 1
  have x0 := R.c0
  have x1 := (R.set0 none 0 0).c1
  have HE := hide ((R.set0 none 0 0).set1 e)
  have HK := hide (((Kg.refl w g).set 0 (.slice none 0 0)).set 1 (.int .i64 e))
  clear R
  go_enter Try.func42, Try.ntmps42
  go_wp2_with fail
  exact ⟨rfl, rfl, HE.out, HK.out⟩
theorem mayRead_live (R : Rdr w g ro rn rc 0 false) : Calls Try.prog 40 #[ptr g] w fun r w' => r = .returned (.bool true) ∧ w' = w := by
  have x1 := R.c1
  have x2 := R.c2
  go_enter Try.func40, Try.ntmps40
  go_wp2_with fail
  go_ret
  exact ⟨rfl, rfl⟩
theorem mayRead_over (R : Rdr w g ro rn rc gave true) : Calls Try.prog 40 #[ptr g] w fun r w' => r = .returned (.bool false) ∧ w' = w := by
  have x1 := R.c1
  have x2 := R.c2
  go_enter Try.func40, Try.ntmps40
  go_wp2_with fail
  go_ret
  exact ⟨rfl, rfl⟩
end Go.Proofs.Ytflinfmhmokfhaa
