/- URi UBe -/
import Derived.Test.YtbmjiedpaffifaaDg24
namespace Go.Proofs.Ytbmjiedpaffifaa.U
open Go.RowKit
variable {w w' w2 : World} {g ev rv : Nat} {ro so : Option Addr} {rn rc sn sc : Nat} {gave : Int} {over : Bool} {Z : List Int}

/-- how f may end -/
inductive EndR (w2 : World) (g : Nat) : Ending → Int → Int → Prop
  | calm {so : Option Addr} {sn sc : Nat} : Rdr w2 g so sn sc 0 false → EndR w2 g (.returned (.tuple #[])) 0 (endA sn)
  | up {e : Int} : Rdr w2 g none 0 0 e false → e ≠ 0 → EndR w2 g (.panicked (ups g)) e e
/-- the world in which f begins -/
abbrev W0 (w : World) (ro : Option Addr) (rn rc : Nat) : World := ((w.alloc (.cells #[.int .i64 0] 41)).alloc (.cells #[.slice ro rn rc, .int .i64 0, .bool false] 103)).alloc (.cells #[ptr (w.heap.size + 1)] 78)
/-- what Read leaves behind: f ended so, and so Read answers -/
def RdPost (n : Nat) (Q : Ending → World → Prop) (r : Ending) (w' : World) : Prop := ∃ e2 w2 gave err, Q e2 w2 ∧ EndR w2 (n + 1) e2 gave err ∧ r = .returned (.int .i64 err) ∧ Fin w2 w' (n + 1) n gave err
theorem Fin.pre {err : Int} {w3 : World} {v : Value} (h : Fin w3 w' g ev gave err) (e : w2.setCell ⟨ev, 0, none⟩ v = w3) : Fin w2 w' g ev gave err := by
  subst e
  exact ⟨h.r, h.e, h.os.trans (setCell_os _ _ _), h.tape.trans (setCell_tape _ _ _), h.output.trans (setCell_output _ _ _), Nat.le_trans (by rw [set_size]; exact Nat.le_refl _) h.size, fun k hk h1 h2 => (h.block k (by rw [set_size]; exact hk) h1 h2).trans (set_other w2 ev 0 k v h2)⟩
theorem read_any (ro : Option Addr) (rn rc : Nat) (F : Nat) (caps : Array Value) (Q : Ending → World → Prop) (w : World) (hcf : ∀ (args : Array Value) (w : World), (callFunc F args).run Try.prog w = .ok (.enter F args) w)
    (hf : Calls Try.prog F (#[ptr (w.heap.size + 1)] ++ caps) (W0 w ro rn rc) Q)
    (hQ : ∀ e w2, Q e w2 → (∃ gave err, EndR w2 (w.heap.size + 1) e gave err) ∧ Var w2 (w.heap.size + 2) (ptr (w.heap.size + 1)) 78 ∧ Var w2 w.heap.size (.int .i64 0) 41) :
    Calls Try.prog 44 #[.slice ro rn rc, .func (.func F) #[] caps] w fun r w' => RdPost w.heap.size Q r w' := by
  have hmf : ∀ (fn : Fn) (first cap : Array Value) (w : World), (Instr.makeFunc fn first cap).run Try.prog w = .ok (.func fn first cap) w := fun _ _ _ _ => rfl
  have hneq : ∀ w : World, (binOp .neq 80 (.func (.func F) #[] caps) .nilFunc).run Try.prog w = .ok (.bool true) w := fun _ => by kernel_rfl
  have HF := hide hf
  have HQ := hide hQ
  clear hf hQ
  go_enter_defers Try.func44, Try.ntmps44
  go_wp2_with fail
  refine HF.out.mono ?_
  intro e w2 hq
  obtain ⟨⟨gave, err, hE⟩, hV, hR⟩ := HQ.out e w2 hq
  have HX := hide hq
  have HV := hide (And.intro hV hR)
  have HE := hide hE
  clear hq hV hR
  cases hE with
  | @calm so sn sc R =>
    have y0 := HV.out.2.c
    have y1 := HV.out.2.z
    have HR := hide R
    clear R
    go_wp2_with fail
    have hs := HV.out.2.lt
    obtain ⟨w3, hw3⟩ : ∃ w3, w2.setCell ⟨w.heap.size, 0, none⟩ (.int .i64 0) = w3 := ⟨_, rfl⟩
    have R3 : Rdr w3 (w.heap.size + 1) so sn sc 0 false := by rw [← hw3]; exact (set_other w2 _ 0 _ _ (by omega)).trans HR.out
    have V3 : Var w3 (w.heap.size + 2) (ptr (w.heap.size + 1)) 78 := by rw [← hw3]; exact (set_other w2 _ 0 _ _ (by omega)).trans HV.out.1
    have E3 : Var w3 w.heap.size (.int .i64 0) 41 := by rw [← hw3]; exact set_heap w2 _ _ _ _ 0 _ HV.out.2
    rw [hw3]
    refine leaves_cons (f := 68) (args := #[ptr (w.heap.size + 2), ptr w.heap.size]) (by simp) (by simp [go_sem]) ?_
    refine (closure_calm R3 0 V3 E3 (by omega)).mono ?_
    rintro e u' w4 ⟨rfl, rfl, hF⟩
    have hc := hF.e
    have HF := hide (hF.pre hw3)
    clear hF
    simp [Leaves, settle, results, Try.results44, go_sem, hc]
    exact ⟨_, _, _, _, HX.out, HE.out, rfl, HF.out⟩
  | up R he =>
    have HR := hide R
    clear R
    go_wp2_with fail
    refine leaves_cons (f := 68) (args := #[ptr (w.heap.size + 2), ptr w.heap.size]) (by simp) (by simp [go_sem]) ?_
    refine (closure_up HR.out he 0 HV.out.1 HV.out.2 (by omega)).mono ?_
    rintro e u' w4 ⟨rfl, rfl, hF⟩
    have hc := hF.e
    have HF := hide hF
    clear hF
    simp [Leaves, settle, results, Try.results44, go_sem, hc]
    exact ⟨_, _, _, _, HX.out, HE.out, rfl, HF.out⟩
end Go.Proofs.Ytbmjiedpaffifaa.U
namespace Go.Proofs.Ytbmjiedpaffifaa.U
open Go.RowKit
variable {w w' w2 : World} {g : Nat}

/-- the world in which a reader's f begins, over w -/
structure Beg (w W1 : World) (ro : Option Addr) (rn rc n0 : Nat) : Prop where
  e : Var W1 w.heap.size (.int .i64 0) 41
  r : Rdr W1 (w.heap.size + 1) ro rn rc 0 false
  v : Var W1 (w.heap.size + 2) (ptr (w.heap.size + 1)) 78
  n : n0 = w.heap.size + 3 ∧ W1.heap.size = n0
  b : Below w.heap.size w W1
theorem beg (w : World) (ro : Option Addr) (rn rc : Nat) : Beg w (W0 w ro rn rc) ro rn rc (w.heap.size + 3) := by
  have b1 := below_new w (.cells #[.int .i64 0] 41)
  have h1 := heap_alloc_new w (.cells #[.int .i64 0] 41)
  have s1 := World.size_alloc w (.cells #[.int .i64 0] 41)
  generalize hw1 : w.alloc (.cells #[.int .i64 0] 41) = w1 at b1 h1 s1
  have b2 := below_new w1 (.cells #[.slice ro rn rc, .int .i64 0, .bool false] 103)
  have h2 := heap_alloc_new w1 (.cells #[.slice ro rn rc, .int .i64 0, .bool false] 103)
  have s2 := World.size_alloc w1 (.cells #[.slice ro rn rc, .int .i64 0, .bool false] 103)
  generalize hw2 : w1.alloc (.cells #[.slice ro rn rc, .int .i64 0, .bool false] 103) = w2 at b2 h2 s2
  have b3 := below_new w2 (.cells #[ptr (w.heap.size + 1)] 78)
  have h3 := heap_alloc_new w2 (.cells #[ptr (w.heap.size + 1)] 78)
  have s3 := World.size_alloc w2 (.cells #[ptr (w.heap.size + 1)] 78)
  have e0 : W0 w ro rn rc = w2.alloc (.cells #[ptr (w.heap.size + 1)] 78) := by unfold W0; rw [hw1, hw2]
  rw [e0]
  rw [s1] at h2 s2
  rw [s2] at h3 s3
  refine ⟨?_, ?_, h3, ⟨rfl, by omega⟩, b1.trans ((b2.trans (b3.mono b2.size)).mono b1.size)⟩
  · exact (b3.block _ (by omega)).trans ((b2.block _ (by omega)).trans h1)
  · exact (b3.block _ (by omega)).trans h2
theorem rdr_inj {so so' : Option Addr} {sn sn' sc sc' : Nat} {e e' : Int} {o o' : Bool} (h : Rdr w g so sn sc e o) (k : Rdr w g so' sn' sc' e' o') : sn = sn' ∧ e = e' := by
  unfold Rdr at h k
  rw [h] at k
  simp at k
  exact ⟨k.1.2.1, k.2.1⟩
end Go.Proofs.Ytbmjiedpaffifaa.U
