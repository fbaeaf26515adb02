/- URc URg URh URi UBe -/
import Derived.Test.YtphohmoibnoeaaaGreatRows
import Derived.WalkKit
import Derived.Orders
import Derived.Recover
import Derived.Test.YtphohmoibnoeaaaGreatPb16
namespace Go.Proofs.YtphohmoibnoeaaaGreat.U

theorem wpS_region_draw {P : Program} {id : Nat} {ops : Array Oper} {Q : Exit → Act → List Frame → World → Prop} {a : Act} {cs : List Frame} {w : World}
  (h : ∀ t, wpOpsS P ops Q (Region.schedule (P.follows .mixedOrders) ops t) a cs { w with drawn := w.drawn + 1 }) : (Code.region id ops true).wpS P Q a cs w :=
 fun b k hb hr => let ⟨e, a', cs', w', q, r⟩ := wp_opsS _ a cs _ (h _) b k hb hr; ⟨e, a', cs', w', q, .of_steps (.one step_region_draw) r⟩
theorem lin_step (md : Region.Mode) (ops : Array Oper) (fuel t : Nat) (listed : Array Bool) (rs : List Nat) (h : Region.ready md ops listed = rs) (hne : rs ≠ []) :
  ∃ i, i ∈ rs ∧ ∃ t', Region.linearise.go md ops (fuel + 1) t listed [] = i :: Region.linearise.go md ops fuel t' (listed.setIfInBounds i true) [] := by
 subst h
 simp only [Region.linearise.go]
 change ∃ i, i ∈ Region.ready md ops listed ∧ ∃ t', (match (Region.ready md ops listed)[t % (Region.ready md ops listed).length]? with
   | some i => Region.linearise.go md ops fuel (t / (Region.ready md ops listed).length) (listed.setIfInBounds i true) [i]
   | none => [].reverse) = i :: Region.linearise.go md ops fuel t' (listed.setIfInBounds i true) []
 cases hi : (Region.ready md ops listed)[t % (Region.ready md ops listed).length]? with
 | none =>
  exfalso
  cases hr : Region.ready md ops listed with
  | nil => exact hne hr
  | cons x xs =>
   rw [hr] at hi
   have hlt : t % (x :: xs).length < (x :: xs).length := Nat.mod_lt _ (by simp)
   simp at hi
   simp at hlt
   omega
 | some i =>
  refine ⟨i, List.mem_of_getElem? hi, t / (Region.ready md ops listed).length, ?_⟩
  simp only []
  rw [linearise_go_acc, List.reverse_singleton, List.singleton_append]
theorem sched_two {P : Program} {ops : Array Oper} (hm : P.follows .mixedOrders = true) (h1 : ops.size = 4) (h0 : Region.ready .any ops #[false, false, false, false] = [0, 1]) (ha : Region.ready .any ops #[true, false, false, false] = [1]) (hb : Region.ready .any ops #[false, true, false, false] = [0]) (hc : Region.ready .any ops #[true, true, false, false] = [2]) (hd : Region.ready .any ops #[true, true, true, false] = [3]) (t : Nat) :
  Region.schedule (P.follows .mixedOrders) ops t = [0, 1, 2, 3] ∨ Region.schedule (P.follows .mixedOrders) ops t = [1, 0, 2, 3] := by
 have e : Region.schedule (P.follows .mixedOrders) ops t = Region.linearise.go .any ops 4 t #[false, false, false, false] [] := by
  simp only [Region.schedule, hm, Bool.true_or, if_true]
  unfold Region.linearise
  rw [h1]
  rfl
 rw [e]
 obtain ⟨i, hi, t1, e1⟩ := lin_step .any ops 3 t _ _ h0 (by simp)
 rw [e1]
 have tail : ∀ t, Region.linearise.go .any ops 2 t #[true, true, false, false] [] = [2, 3] := fun t => by
  obtain ⟨i, hi, t1, e1⟩ := lin_step .any ops 1 t _ _ hc (by simp)
  obtain rfl := List.mem_singleton.1 hi
  rw [e1]
  obtain ⟨i, hi, t2, e2⟩ := lin_step .any ops 0 t1 _ _ hd (by simp)
  obtain rfl := List.mem_singleton.1 hi
  exact congrArg _ e2
 simp only [List.mem_cons, List.not_mem_nil, or_false] at hi
 rcases hi with rfl | rfl
 ·left
  obtain ⟨i, hi, t2, e2⟩ := lin_step .any ops 2 t1 _ _ ha (by simp)
  obtain rfl := List.mem_singleton.1 hi
  exact congrArg _ (e2.trans (congrArg _ (tail t2)))
 ·right
  obtain ⟨i, hi, t2, e2⟩ := lin_step .any ops 2 t1 _ _ hb (by simp)
  obtain rfl := List.mem_singleton.1 hi
  exact congrArg _ (e2.trans (congrArg _ (tail t2)))
theorem wpS_region_two {P : Program} {id : Nat} {ops : Array Oper} {Q : Exit → Act → List Frame → World → Prop} {a : Act} {cs : List Frame} {w : World} (hm : P.follows .mixedOrders = true) (h1 : ops.size = 4) (h0 : Region.ready .any ops #[false, false, false, false] = [0, 1]) (ha : Region.ready .any ops #[true, false, false, false] = [1]) (hb : Region.ready .any ops #[false, true, false, false] = [0]) (hc : Region.ready .any ops #[true, true, false, false] = [2]) (hd : Region.ready .any ops #[true, true, true, false] = [3])
  (x : wpOpsS P ops Q [0, 1, 2, 3] a cs w.drew) (y : wpOpsS P ops Q [1, 0, 2, 3] a cs w.drew) : (Code.region id ops true).wpS P Q a cs w :=
 wpS_region_draw fun t => by
  rcases sched_two hm h1 h0 ha hb hc hd t with e | e
  ·rw [e]; exact x
  ·rw [e]; exact y
end Go.Proofs.YtphohmoibnoeaaaGreat.U
namespace Go.Proofs.YtphohmoibnoeaaaGreat.U
open Go.RowKit
variable {w w' w2 : World} {g : Nat} {ro so : Option Addr} {rn rc sn sc : Nat} {gave : Int} {over : Bool} {Z : List Int}

def Ended (w w' : World) (g : Nat) (gave : Int) : Prop := Rdr w' g none 0 0 gave true ∧ Kg w w' g
theorem ta_nil (w : World) : (Instr.typeAssert .nilIface 20 155 true).run Tryz.prog w = .ok (.tuple #[.agg #[.pointer none], .bool false]) w := by kernel_rfl
theorem ta_up (v : Value) (w : World) : (Instr.typeAssert (.iface 155 (.agg #[v])) 20 155 true).run Tryz.prog w = .ok (.tuple #[.agg #[v], .bool true]) w := by kernel_rfl
def endA (rn : Nat) : Int := if rn = 0 then 0 else 52
set_option maxRecDepth 100000 in
theorem end_calm (R : Rdr w g ro rn rc 0 false) : Calls Tryz.prog 103 #[ptr g, .nilIface] w fun r w' => r = .returned (.int .i64 (endA rn)) ∧ Ended w w' g 0 := by
 have z0 := R.z 0
 have x0 := R.c0
 have x1 := R.c1
 have x2 := R.c2
 have R1 := R.set0 none 0 0
 have z2 := R1.z 2
 have R2 := R1.set2 true
 have HK2 := ((Kg.refl w g).set 0 (.slice none 0 0)).set 2 (.bool true)
 obtain ⟨wa, hwa⟩ : ∃ wa, (w.setCell ⟨g, 0, none⟩ (.slice none 0 0)).setCell ⟨g, 2, none⟩ (.bool true) = wa := ⟨_, rfl⟩
 rw [hwa] at R2 HK2
 have ba := below_new wa (.cells #[.pointer none] 155)
 have R3 : Rdr (wa.alloc (.cells #[.pointer none] 155)) g none 0 0 0 true := (ba.block g R2.lt).trans R2
 have y1 := R3.c1
 have HE : Hid (Ended w (wa.alloc (.cells #[.pointer none] 155)) g 0) := ⟨R3, HK2.trans (Kg.of_below ba)⟩
 clear R R1 R2 HK2 R3 ba
 have hta := ta_nil wa
 by_cases hr : rn = 0
 ·subst hr
  go_enter Tryz.func103, Tryz.ntmps103
  go_wp2_with fail
  go_ret
  exact ⟨rfl, HE.out⟩
 ·have hr2 : 0 < rn := Nat.pos_of_ne_zero hr
  have HA : Hid (endA rn = 52) := if_neg hr
  clear hr
  go_enter Tryz.func103, Tryz.ntmps103
  go_wp2_with fail
  go_ret
  exact ⟨by rw [HA.out]; rfl, HE.out⟩
set_option maxRecDepth 100000 in
theorem end_up {e : Int} (R : Rdr w g none 0 0 e false) (he : e ≠ 0) : Calls Tryz.prog 103 #[ptr g, upV g] w fun r w' => r = .returned (.int .i64 e) ∧ Ended w w' g e := by
 have z0 := R.z 0
 have x0 := R.c0
 have x1 := R.c1
 have x2 := R.c2
 have R1 := R.set0 none 0 0
 have z2 := R1.z 2
 have R2 := R1.set2 true
 have HK2 := ((Kg.refl w g).set 0 (.slice none 0 0)).set 2 (.bool true)
 obtain ⟨wa, hwa⟩ : ∃ wa, (w.setCell ⟨g, 0, none⟩ (.slice none 0 0)).setCell ⟨g, 2, none⟩ (.bool true) = wa := ⟨_, rfl⟩
 rw [hwa] at R2 HK2
 have ba := below_new wa (.cells #[ptr g] 155)
 have R3 : Rdr (wa.alloc (.cells #[ptr g] 155)) g none 0 0 e true := (ba.block g R2.lt).trans R2
 have y1 := R3.c1
 have y2 := R3.c2
 have HE : Hid (Ended w (wa.alloc (.cells #[ptr g] 155)) g e) := ⟨R3, HK2.trans (Kg.of_below ba)⟩
 clear R R1 R2 HK2 R3 ba
 have hta := ta_up (ptr g) wa
 have he2 : (e != 0) = true := by simpa using he
 go_enter Tryz.func103, Tryz.ntmps103
 go_wp2_with fail
 go_ret
 exact ⟨rfl, HE.out⟩
end Go.Proofs.YtphohmoibnoeaaaGreat.U
namespace Go.Proofs.YtphohmoibnoeaaaGreat.U
open Go.RowKit
variable {w w' w2 : World} {g ev rv : Nat} {ro so : Option Addr} {rn rc sn sc : Nat} {gave : Int} {over : Bool} {Z : List Int}

structure Fin (w w' : World) (g ev : Nat) (gave err : Int) : Prop where
 r : Rdr w' g none 0 0 gave true
 e : w'.cell? ⟨ev, 0, none⟩ = some (.int .i64 err)
 os : w'.os = w.os
 tape : w'.tape = w.tape
 output : w'.output = w.output
 size : w.heap.size ≤ w'.heap.size
 block : ∀ k, k < w.heap.size → k ≠ g → k ≠ ev → w'.heap[k]? = w.heap[k]?
def Var (w : World) (b : Nat) (v : Value) (t : TypeId) : Prop := w.heap[b]? = some (.cells #[v] t (0, 0))
theorem Var.c {b : Nat} {v : Value} {t : TypeId} (h : Var w b v t) : w.cell? ⟨b, 0, none⟩ = some v := by unfold Var at h; simp [World.cell?, h]
theorem Var.z {b : Nat} {v : Value} {t : TypeId} (h : Var w b v t) : w.frozen? ⟨b, 0, none⟩ = false := by unfold Var at h; simp [World.frozen?, h]
theorem Var.lt {b : Nat} {v : Value} {t : TypeId} (h : Var w b v t) : b < w.heap.size := (Array.getElem?_eq_some_iff.1 h).1
theorem Ended.fin {x err : Int} (h : Ended w w' g gave) (V : Var w ev (.int .i64 x) 32) (hn : ev ≠ g) : Fin w (w'.setCell ⟨ev, 0, none⟩ (.int .i64 err)) g ev gave err := by
 have V' : Var w' ev (.int .i64 x) 32 := (h.2.block ev V.lt hn).trans V
 refine ⟨(set_other w' ev 0 g _ (Ne.symm hn)).trans h.1, ?_, (setCell_os _ _ _).trans h.2.os, (setCell_tape _ _ _).trans h.2.tape, (setCell_output _ _ _).trans h.2.output, by rw [set_size]; exact h.2.size, fun k hk h1 h2 => (set_other w' ev 0 k _ h2).trans (h.2.block k hk h1)⟩
 have := set_heap w' ev _ _ _ 0 (.int .i64 err) V'
 simp [World.cell?, this]
theorem Rdr.drew (R : Rdr w g ro rn rc gave over) : Rdr w.drew g ro rn rc gave over := R
theorem Var.drew {b : Nat} {v : Value} {t : TypeId} (h : Var w b v t) : Var w.drew b v t := h
theorem Fin.drew {err : Int} (h : Fin w.drew w' g ev gave err) : Fin w w' g ev gave err := ⟨h.r, h.e, h.os, h.tape, h.output, h.size, h.block⟩
theorem closure_calm (R : Rdr w g ro rn rc 0 false) (x : Int) (V : Var w rv (ptr g) 82) (E : Var w ev (.int .i64 x) 32) (hn : ev ≠ g) :
  CallsD Tryz.prog 102 #[ptr rv, ptr ev] .returning w fun e u' w' => e = .returned (.tuple #[]) ∧ u' = .returning ∧ Fin w w' g ev 0 (endA rn) := by
 refine callsD_of_wpS Tryz.func102 rfl fun c₀ cs hu => ?_
 have x1 := V.drew.c
 refine wpS_region_two (by kernel_rfl) (by kernel_rfl) (by kernel_rfl) (by kernel_rfl) (by kernel_rfl) (by kernel_rfl) (by kernel_rfl) ?_ ?_
 all_goals
  simp [wpOpsS, go_sem, recoverD, hu, Tryz.ntmps102, x1]
  refine (end_calm R.drew).mono ?_
  rintro e w3 ⟨rfl, hE⟩
  have V' : Var w3 ev (.int .i64 x) 32 := (hE.2.block ev E.lt hn).trans E
  have x2 := V'.c
  have x3 := V'.z
  have hF := (hE.fin (err := endA rn) E.drew hn).drew
  simp [go_sem, x2, x3]
  exact ⟨rfl, .returning, by cases c₀; simp_all, _, results_none rfl _ _ _, rfl, rfl, hF⟩
abbrev caught (g : Nat) : List PanicEntry := [{ v := upV g, recovered := true }]
theorem closure_up {err : Int} (R : Rdr w g none 0 0 err false) (he : err ≠ 0) (x : Int) (V : Var w rv (ptr g) 82) (E : Var w ev (.int .i64 x) 32) (hn : ev ≠ g) :
  CallsD Tryz.prog 102 #[ptr rv, ptr ev] (.panicking (ups g)) w fun e u' w' => e = .returned (.tuple #[]) ∧ u' = .panicking (caught g) ∧ Fin w w' g ev err err := by
 refine callsD_of_wpS Tryz.func102 rfl fun c₀ cs hu => ?_
 have x1 := V.drew.c
 refine wpS_region_two (by kernel_rfl) (by kernel_rfl) (by kernel_rfl) (by kernel_rfl) (by kernel_rfl) (by kernel_rfl) (by kernel_rfl) ?_ ?_
 all_goals
  simp [wpOpsS, go_sem, recoverD, hu, Tryz.ntmps102, x1]
  refine (end_up R.drew he).mono ?_
  rintro e w3 ⟨rfl, hE⟩
  have V' : Var w3 ev (.int .i64 x) 32 := (hE.2.block ev E.lt hn).trans E
  have x2 := V'.c
  have x3 := V'.z
  have hF := (hE.fin (err := err) E.drew hn).drew
  simp [go_sem, x2, x3]
  exact ⟨rfl, .panicking (caught g), by cases c₀; simp_all, _, results_none rfl _ _ _, rfl, rfl, hF⟩
end Go.Proofs.YtphohmoibnoeaaaGreat.U
namespace Go.Proofs.YtphohmoibnoeaaaGreat.U
open Go.RowKit
variable {w w' w2 : World} {g ev rv : Nat} {ro so : Option Addr} {rn rc sn sc : Nat} {gave : Int} {over : Bool} {Z : List Int}

inductive EndR (w2 : World) (g : Nat) : Ending → Int → Int → Prop
 | calm {so : Option Addr} {sn sc : Nat} : Rdr w2 g so sn sc 0 false → EndR w2 g (.returned (.tuple #[])) 0 (endA sn)
 | up {e : Int} : Rdr w2 g none 0 0 e false → e ≠ 0 → EndR w2 g (.panicked (ups g)) e e
abbrev W0 (w : World) (ro : Option Addr) (rn rc : Nat) : World := ((w.alloc (.cells #[.int .i64 0] 32)).alloc (.cells #[.slice ro rn rc, .int .i64 0, .bool false] 139)).alloc (.cells #[ptr (w.heap.size + 1)] 82)
def RdPost (n : Nat) (Q : Ending → World → Prop) (r : Ending) (w' : World) : Prop := ∃ e2 w2 gave err, Q e2 w2 ∧ EndR w2 (n + 1) e2 gave err ∧ r = .returned (.int .i64 err) ∧ Fin w2 w' (n + 1) n gave err
theorem Fin.pre {err : Int} {w3 : World} {v : Value} (h : Fin w3 w' g ev gave err) (e : w2.setCell ⟨ev, 0, none⟩ v = w3) : Fin w2 w' g ev gave err := by
 subst e
 exact ⟨h.r, h.e, h.os.trans (setCell_os _ _ _), h.tape.trans (setCell_tape _ _ _), h.output.trans (setCell_output _ _ _), Nat.le_trans (by rw [set_size]; exact Nat.le_refl _) h.size, fun k hk h1 h2 => (h.block k (by rw [set_size]; exact hk) h1 h2).trans (set_other w2 ev 0 k v h2)⟩
theorem read_any (ro : Option Addr) (rn rc : Nat) (F : Nat) (caps : Array Value) (Q : Ending → World → Prop) (w : World) (hcf : ∀ (args : Array Value) (w : World), (callFunc F args).run Tryz.prog w = .ok (.enter F args) w)
  (hf : Calls Tryz.prog F (#[ptr (w.heap.size + 1)] ++ caps) (W0 w ro rn rc) Q)
  (hQ : ∀ e w2, Q e w2 → (∃ gave err, EndR w2 (w.heap.size + 1) e gave err) ∧ Var w2 (w.heap.size + 2) (ptr (w.heap.size + 1)) 82 ∧ Var w2 w.heap.size (.int .i64 0) 32) :
  Calls Tryz.prog 74 #[.slice ro rn rc, .func (.func F) #[] caps] w fun r w' => RdPost w.heap.size Q r w' := by
 have hmf : ∀ (fn : Fn) (first cap : Array Value) (w : World), (Instr.makeFunc fn first cap).run Tryz.prog w = .ok (.func fn first cap) w := fun _ _ _ _ => rfl
 have hneq : ∀ w : World, (binOp .neq 117 (.func (.func F) #[] caps) .nilFunc).run Tryz.prog w = .ok (.bool true) w := fun _ => by kernel_rfl
 have HF := hide hf
 have HQ := hide hQ
 clear hf hQ
 go_enter_defers Tryz.func74, Tryz.ntmps74
 go_wp2_with fail
 refine HF.out.mono ?_
 intro e w2 hq
 obtain ⟨⟨gave, err, hE⟩, hV, hR⟩ := HQ.out e w2 hq
 have HX := hide hq
 have HV := hide (And.intro hV hR)
 have HE := hide hE
 clear hq hV hR
 cases hE with
 | @calm so sn sc R =>
  have y0 := HV.out.2.c
  have y1 := HV.out.2.z
  have HR := hide R
  clear R
  go_wp2_with fail
  have hs := HV.out.2.lt
  obtain ⟨w3, hw3⟩ : ∃ w3, w2.setCell ⟨w.heap.size, 0, none⟩ (.int .i64 0) = w3 := ⟨_, rfl⟩
  have R3 : Rdr w3 (w.heap.size + 1) so sn sc 0 false := by rw [← hw3]; exact (set_other w2 _ 0 _ _ (by omega)).trans HR.out
  have V3 : Var w3 (w.heap.size + 2) (ptr (w.heap.size + 1)) 82 := by rw [← hw3]; exact (set_other w2 _ 0 _ _ (by omega)).trans HV.out.1
  have E3 : Var w3 w.heap.size (.int .i64 0) 32 := by rw [← hw3]; exact set_heap w2 _ _ _ _ 0 _ HV.out.2
  rw [hw3]
  refine leaves_cons (f := 102) (args := #[ptr (w.heap.size + 2), ptr w.heap.size]) (by simp) (by simp [go_sem]) ?_
  refine (closure_calm R3 0 V3 E3 (by omega)).mono ?_
  rintro e u' w4 ⟨rfl, rfl, hF⟩
  have hc := hF.e
  have HF := hide (hF.pre hw3)
  clear hF
  simp [Leaves, settle, results, Tryz.results74, go_sem, hc]
  exact ⟨_, _, _, _, HX.out, HE.out, rfl, HF.out⟩
 | up R he =>
  have HR := hide R
  clear R
  go_wp2_with fail
  refine leaves_cons (f := 102) (args := #[ptr (w.heap.size + 2), ptr w.heap.size]) (by simp) (by simp [go_sem]) ?_
  refine (closure_up HR.out he 0 HV.out.1 HV.out.2 (by omega)).mono ?_
  rintro e u' w4 ⟨rfl, rfl, hF⟩
  have hc := hF.e
  have HF := hide hF
  clear hF
  simp [Leaves, settle, results, Tryz.results74, go_sem, hc]
  exact ⟨_, _, _, _, HX.out, HE.out, rfl, HF.out⟩
end Go.Proofs.YtphohmoibnoeaaaGreat.U
namespace Go.Proofs.YtphohmoibnoeaaaGreat.U
open Go.RowKit
variable {w w' w2 : World} {g : Nat}

structure Beg (w W1 : World) (ro : Option Addr) (rn rc n0 : Nat) : Prop where
 e : Var W1 w.heap.size (.int .i64 0) 32
 r : Rdr W1 (w.heap.size + 1) ro rn rc 0 false
 v : Var W1 (w.heap.size + 2) (ptr (w.heap.size + 1)) 82
 n : n0 = w.heap.size + 3 ∧ W1.heap.size = n0
 b : Below w.heap.size w W1
theorem beg (w : World) (ro : Option Addr) (rn rc : Nat) : Beg w (W0 w ro rn rc) ro rn rc (w.heap.size + 3) := by
 have b1 := below_new w (.cells #[.int .i64 0] 32)
 have h1 := heap_alloc_new w (.cells #[.int .i64 0] 32)
 have s1 := World.size_alloc w (.cells #[.int .i64 0] 32)
 generalize hw1 : w.alloc (.cells #[.int .i64 0] 32) = w1 at b1 h1 s1
 have b2 := below_new w1 (.cells #[.slice ro rn rc, .int .i64 0, .bool false] 139)
 have h2 := heap_alloc_new w1 (.cells #[.slice ro rn rc, .int .i64 0, .bool false] 139)
 have s2 := World.size_alloc w1 (.cells #[.slice ro rn rc, .int .i64 0, .bool false] 139)
 generalize hw2 : w1.alloc (.cells #[.slice ro rn rc, .int .i64 0, .bool false] 139) = w2 at b2 h2 s2
 have b3 := below_new w2 (.cells #[ptr (w.heap.size + 1)] 82)
 have h3 := heap_alloc_new w2 (.cells #[ptr (w.heap.size + 1)] 82)
 have s3 := World.size_alloc w2 (.cells #[ptr (w.heap.size + 1)] 82)
 have e0 : W0 w ro rn rc = w2.alloc (.cells #[ptr (w.heap.size + 1)] 82) := by unfold W0; rw [hw1, hw2]
 rw [e0]
 rw [s1] at h2 s2
 rw [s2] at h3 s3
 refine ⟨?_, ?_, h3, ⟨rfl, by omega⟩, b1.trans ((b2.trans (b3.mono b2.size)).mono b1.size)⟩
 ·exact (b3.block _ (by omega)).trans ((b2.block _ (by omega)).trans h1)
 ·exact (b3.block _ (by omega)).trans h2
theorem rdr_inj {so so' : Option Addr} {sn sn' sc sc' : Nat} {e e' : Int} {o o' : Bool} (h : Rdr w g so sn sc e o) (k : Rdr w g so' sn' sc' e' o') : sn = sn' ∧ e = e' := by
 unfold Rdr at h k
 rw [h] at k
 simp at k
 exact ⟨k.1.2.1, k.2.1⟩
end Go.Proofs.YtphohmoibnoeaaaGreat.U
