/- wire.Read: a reader further out gives up inside; a chain of panics behind. -/
import Derived.Test.YtflinfmhmokfhaaURb
namespace Go.Proofs.Ytflinfmhmokfhaa
open Go.RowKit
variable {w w' w2 : World} {g q ev rv : Nat} {ro so : Option Addr} {rn rc sn sc : Nat} {gave : Int} {over : Bool} {Z : List Int}

set_option maxRecDepth 100000 in
theorem end_other {e : Int} (R : Rdr w q ro rn rc 0 false) (O : Rdr w g none 0 0 e false) (hn : g ≠ q) : Calls Try.prog 24 #[ptr q, upV g] w fun r w' => r = .panicked (ups g) ∧ Ended w w' q 0 := by
  have z0 := R.z 0
  have x0 := R.c0
  have x1 := R.c1
  have x2 := R.c2
  have R1 := R.set0 none 0 0
  have z2 := R1.z 2
  have R2 := R1.set2 true
  have HK2 := ((Kg.refl w q).set 0 (.slice none 0 0)).set 2 (.bool true)
  obtain ⟨wa, hwa⟩ : ∃ wa, (w.setCell ⟨q, 0, none⟩ (.slice none 0 0)).setCell ⟨q, 2, none⟩ (.bool true) = wa := ⟨_, rfl⟩
  rw [hwa] at R2 HK2
  have ba := below_new wa (.cells #[ptr g] 79)
  have R3 : Rdr (wa.alloc (.cells #[ptr g] 79)) q none 0 0 0 true := (ba.block q R2.lt).trans R2
  have O2 : Rdr wa g none 0 0 e false := (HK2.block g O.lt hn).trans O
  have O3 : Rdr (wa.alloc (.cells #[ptr g] 79)) g none 0 0 e false := (ba.block g O2.lt).trans O2
  have y1 := R3.c1
  have y2 := O3.c2
  have HE : Hid (Ended w (wa.alloc (.cells #[ptr g] 79)) q 0) := ⟨R3, HK2.trans (Kg.of_below ba)⟩
  clear R R1 R2 HK2 R3 ba O O2 O3
  have hta := ta_up (ptr g) wa
  go_enter Try.func24, Try.ntmps24
  go_wp2_with fail
  exact ⟨rfl, rfl, HE.out⟩
/-- a chain whose newest panic is the reader's -/
abbrev upL (g : Nat) (b : Bool) (l : List PanicEntry) : List PanicEntry := { v := upV g, recovered := b } :: l
theorem closure_upL {err : Int} (l : List PanicEntry) (R : Rdr w g none 0 0 err false) (he : err ≠ 0) (x : Int) (V : Var w rv (ptr g) 25) (E : Var w ev (.int .i64 x) 26) (hn : ev ≠ g) :
    CallsD Try.prog 23 #[ptr rv, ptr ev] (.panicking (upL g false l)) w fun e u' w' => e = .returned (.tuple #[]) ∧ u' = .panicking (upL g true l) ∧ Fin w w' g ev err err := by
  refine callsD_of_wpS Try.func23 rfl fun c₀ cs hu => ?_
  have x1 := V.drew.c
  refine wpS_region_two (by kernel_rfl) (by kernel_rfl) (by kernel_rfl) (by kernel_rfl) (by kernel_rfl) (by kernel_rfl) (by kernel_rfl) ?_ ?_
  all_goals
    simp [wpOpsS, go_sem, recoverD, hu, Try.ntmps23, x1]
    refine (end_up R.drew he).mono ?_
    rintro e w3 ⟨rfl, hE⟩
    have V' : Var w3 ev (.int .i64 x) 26 := (hE.2.block ev E.lt hn).trans E
    have x2 := V'.c
    have x3 := V'.z
    have hF := (hE.fin (err := err) E.drew hn).drew
    simp [go_sem, x2, x3]
    exact ⟨rfl, .panicking (upL g true l), by cases c₀; simp_all, _, results_none rfl _ _ _, rfl, rfl, hF⟩
theorem Ended.drew (h : Ended w.drew w' q gave) : Ended w w' q gave := ⟨h.1, h.2.os, h.2.tape, h.2.output, h.2.size, h.2.block⟩
theorem closure_other {e : Int} (R : Rdr w q ro rn rc 0 false) (O : Rdr w g none 0 0 e false) (hn : g ≠ q) (V : Var w rv (ptr q) 25) :
    CallsD Try.prog 23 #[ptr rv, ptr ev] (.panicking (ups g)) w fun e u' w' => e = .panicked (ups g) ∧ u' = .panicking (caught g) ∧ Ended w w' q 0 := by
  refine callsD_of_wpS Try.func23 rfl fun c₀ cs hu => ?_
  have x1 := V.drew.c
  refine wpS_region_two (by kernel_rfl) (by kernel_rfl) (by kernel_rfl) (by kernel_rfl) (by kernel_rfl) (by kernel_rfl) (by kernel_rfl) ?_ ?_
  all_goals
    simp [wpOpsS, go_sem, recoverD, hu, Try.ntmps23, x1]
    refine (end_other R.drew O.drew hn).mono ?_
    rintro e w3 ⟨rfl, hE⟩
    simp [go_sem]
    exact ⟨rfl, .panicking (caught g), by cases c₀; simp_all, rfl, rfl, hE.drew⟩
/-- how f may end, where Read answers -/
inductive EndU (w2 : World) (g : Nat) : Ending → Int → Int → Prop
  | calm {so : Option Addr} {sn sc : Nat} : Rdr w2 g so sn sc 0 false → EndU w2 g (.returned (.tuple #[])) 0 (endA sn)
  | up {e : Int} (l : List PanicEntry) : l = [] ∨ l = caught g → Rdr w2 g none 0 0 e false → e ≠ 0 → EndU w2 g (.panicked (upL g false l)) e e
  | boom {so : Option Addr} {sn sc : Nat} {v : Value} : Rdr w2 g so sn sc 0 false → EndU w2 g (.panicked (bmE v false)) 0 8
/-- where a reader further out gives up -/
def EndO (w2 : World) (g : Nat) (e : Ending) : Prop := ∃ so sn sc o x, Rdr w2 g so sn sc 0 false ∧ Rdr w2 o none 0 0 x false ∧ o ≠ g ∧ e = .panicked (ups o)
def RdPosU (n : Nat) (Q : Ending → World → Prop) (r : Ending) (w' : World) : Prop := ∃ e2 w2, Q e2 w2 ∧ ((∃ gave err, EndU w2 (n + 1) e2 gave err ∧ r = .returned (.int .i64 err) ∧ Fin w2 w' (n + 1) n gave err) ∨ (EndO w2 (n + 1) e2 ∧ ∃ o, e2 = .panicked (ups o) ∧ r = .panicked (upL o false (caught o)) ∧ Ended w2 w' (n + 1) 0))
theorem readU_any (ro : Option Addr) (rn rc : Nat) (F : Nat) (caps : Array Value) (Q : Ending → World → Prop) (w : World) (hcf : ∀ (args : Array Value) (w : World), (callFunc F args).run Try.prog w = .ok (.enter F args) w)
    (hf : Calls Try.prog F (#[ptr (w.heap.size + 1)] ++ caps) (W0 w ro rn rc) Q)
    (hQ : ∀ e w2, Q e w2 → ((∃ gave err, EndU w2 (w.heap.size + 1) e gave err) ∨ EndO w2 (w.heap.size + 1) e) ∧ Var w2 (w.heap.size + 2) (ptr (w.heap.size + 1)) 25 ∧ Var w2 w.heap.size (.int .i64 0) 26) :
    Calls Try.prog 6 #[.slice ro rn rc, .func (.func F) #[] caps] w fun r w' => RdPosU w.heap.size Q r w' := by
  have hmf : ∀ (fn : Fn) (first cap : Array Value) (w : World), (Instr.makeFunc fn first cap).run Try.prog w = .ok (.func fn first cap) w := fun _ _ _ _ => rfl
  have hneq : ∀ w : World, (binOp .neq 33 (.func (.func F) #[] caps) .nilFunc).run Try.prog w = .ok (.bool true) w := fun _ => by kernel_rfl
  have HF := hide hf
  have HQ := hide hQ
  clear hf hQ
  go_enter_defers Try.func6, Try.ntmps6
  go_wp2_with fail
  refine HF.out.mono ?_
  intro e w2 hq
  obtain ⟨hE, hV, hR⟩ := HQ.out e w2 hq
  have HX := hide hq
  have HV := hide (And.intro hV hR)
  clear hq hV hR
  rcases hE with ⟨gave, err, hE⟩ | hO
  rotate_left
  · have HEO := hide hO
    obtain ⟨so, sn, sc, o, x, R, O, hn, rfl⟩ := hO
    have HR := hide R
    have HO := hide (And.intro O hn)
    clear R O hn
    go_wp2_with fail
    refine leaves_cons (f := 23) (args := #[ptr (w.heap.size + 2), ptr w.heap.size]) (by simp) (by simp [go_sem]) ?_
    refine (closure_other HR.out HO.out.1 HO.out.2 HV.out.1).mono ?_
    rintro e u' w4 ⟨rfl, rfl, hF⟩
    have HF := hide hF
    clear hF
    show Leaves _ _ _ _ [] (.panicking (upL o false (caught o))) w4
    simp [Leaves, go_sem]
    exact ⟨_, _, HX.out, Or.inr ⟨HEO.out, o, rfl, rfl, HF.out⟩⟩
  have HE := hide hE
  cases hE with
  | @calm so sn sc R =>
    have y0 := HV.out.2.c
    have y1 := HV.out.2.z
    have HR := hide R
    clear R
    go_wp2_with fail
    have hs := HV.out.2.lt
    obtain ⟨w3, hw3⟩ : ∃ w3, w2.setCell ⟨w.heap.size, 0, none⟩ (.int .i64 0) = w3 := ⟨_, rfl⟩
    have R3 : Rdr w3 (w.heap.size + 1) so sn sc 0 false := by rw [← hw3]; exact (set_other w2 _ 0 _ _ (by omega)).trans HR.out
    have V3 : Var w3 (w.heap.size + 2) (ptr (w.heap.size + 1)) 25 := by rw [← hw3]; exact (set_other w2 _ 0 _ _ (by omega)).trans HV.out.1
    have E3 : Var w3 w.heap.size (.int .i64 0) 26 := by rw [← hw3]; exact set_heap w2 _ _ _ _ 0 _ HV.out.2
    rw [hw3]
    refine leaves_cons (f := 23) (args := #[ptr (w.heap.size + 2), ptr w.heap.size]) (by simp) (by simp [go_sem]) ?_
    refine (closure_calm R3 0 V3 E3 (by omega)).mono ?_
    rintro e u' w4 ⟨rfl, rfl, hF⟩
    have hc := hF.e
    have HF := hide (hF.pre hw3)
    clear hF
    simp [Leaves, settle, results, Try.results6, go_sem, hc]
    exact ⟨_, _, HX.out, Or.inl ⟨_, _, HE.out, rfl, HF.out⟩⟩
  | up l hl R he =>
    have HR := hide R
    clear R
    go_wp2_with fail
    refine leaves_cons (f := 23) (args := #[ptr (w.heap.size + 2), ptr w.heap.size]) (by simp) (by simp [go_sem]) ?_
    refine (closure_upL l HR.out he 0 HV.out.1 HV.out.2 (by omega)).mono ?_
    rintro e u' w4 ⟨rfl, rfl, hF⟩
    have hc := hF.e
    have HF := hide hF
    clear hF
    rcases hl with rfl | rfl
    all_goals simp [Leaves, settle, results, Try.results6, go_sem, hc]
    all_goals exact ⟨_, _, HX.out, Or.inl ⟨_, _, HE.out, rfl, HF.out⟩⟩
  | @boom so sn sc v R =>
    have HR := hide R
    clear R
    go_wp2_with fail
    refine leaves_cons (f := 23) (args := #[ptr (w.heap.size + 2), ptr w.heap.size]) (by simp) (by simp [go_sem]) ?_
    refine (closure_boom HR.out v 0 HV.out.1 HV.out.2 (by omega)).mono ?_
    rintro e u' w4 ⟨rfl, rfl, hF⟩
    have hc := hF.e
    have HF := hide hF
    clear hF
    simp [Leaves, settle, results, Try.results6, go_sem, hc]
    exact ⟨_, _, HX.out, Or.inl ⟨_, _, HE.out, rfl, HF.out⟩⟩
end Go.Proofs.Ytflinfmhmokfhaa
