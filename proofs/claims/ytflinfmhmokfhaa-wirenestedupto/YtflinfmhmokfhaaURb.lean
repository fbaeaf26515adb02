/- wire.Read where f may panic by itself, or is nil. -/
import Derived.Test.YtflinfmhmokfhaaUBe
import Derived.Test.YtflinfmhmokfhaaUAm
import Derived.Lib.BoundsPanic
namespace Go.Proofs.Ytflinfmhmokfhaa
open Go.RowKit
attribute [local go_sem ↓] ldG_eq stG_eq
attribute [local go_sem] GC_size KC_size to_GC to_KC GC_s0 GC_s1 GC_s2
variable {w w' w2 : World} {g ev rv : Nat} {ro so : Option Addr} {rn rc sn sc : Nat} {gave : Int} {over : Bool} {Z : List Int}

/-- an index behind an empty list -/
abbrev bmV (v : Value) : Value := .iface 8 v
theorem rt_bm : Try.prog.rt.boundsError = 8 := by kernel_rfl
abbrev bmE (v : Value) (r : Bool) : List PanicEntry := [{ v := bmV v, recovered := r }]
theorem ta_bm (v : Value) (w : World) : (Instr.typeAssert (bmV v) 20 79 true).run Try.prog w = .ok (.tuple #[.agg #[.pointer none], .bool false]) w := by kernel_rfl
theorem ne_bm (v : Value) (w : World) : (binOp .neq 20 (bmV v) .nilIface).run Try.prog w = .ok (.bool true) w := by kernel_rfl
theorem eg_bm (v : Value) (t : Nat) (w : World) : (eqGuard .neq 20 (.tmp t) (.const .nilIface) (bmV v) .nilIface).run Try.prog w = .ok () w := by kernel_rfl
theorem seven_bd (n : Int) : 0 ≤ bits .and .i64 n 7 ∧ bits .and .i64 n 7 ≤ 31 := by
  have h1 : (BitVec.ofInt 64 n &&& BitVec.ofInt 64 7).toNat ≤ 7 := by
    rw [BitVec.toNat_and]
    exact Nat.le_trans Nat.and_le_right (by decide)
  have e : bits .and .i64 n 7 = IntKind.i64.wrap ((BitVec.ofInt 64 n &&& BitVec.ofInt 64 7).toNat : Int) := rfl
  rw [e]
  generalize (BitVec.ofInt 64 n &&& BitVec.ofInt 64 7).toNat = x at h1
  rw [IntKind.wrap_i64]
  omega
set_option maxRecDepth 100000 in
theorem ask8_boom (_ : RL w g ro rn rc Z) {n : Int} : Calls Try.prog 8 #[ptr g, .agg (KC ⟨8, n⟩)] w fun r w' => (∃ v, r = .panicked (bmE v false)) ∧ Below w.heap.size w w' := by
  obtain ⟨g3, hg3⟩ : ∃ g3, w.heap.size = g3 := ⟨_, rfl⟩
  obtain ⟨wa, hwa⟩ : ∃ wa, w.alloc (.cells (KC ⟨8, n⟩) 32) = wa := ⟨_, rfl⟩
  obtain ⟨wb, hwb⟩ : ∃ wb, wa.alloc (.cells (GC ⟨0, false, ⟨#[]⟩⟩) 29) = wb := ⟨_, rfl⟩
  have hsa : wa.heap.size = g3 + 1 := by rw [← hwa, World.size_alloc, hg3]
  have hsb : wb.heap.size = g3 + 2 := by rw [← hwb, World.size_alloc, hsa]
  obtain ⟨wq, hst, M5, b5, z5⟩ := madeG wb ⟨0, false, ⟨#[]⟩⟩ (g3 + 2) hsb
  simp only [g0] at hst
  have hA := ab_made 8 n hwa hwb hg3 hsa hsb M5 b5 z5
  have HA := hide hA
  have x0 := hA.k.c0
  have x1 := hA.k.c1
  simp only at x0 x1
  obtain ⟨b7, hb7⟩ : ∃ b7, bits .and .i64 n 7 = b7 := ⟨_, rfl⟩
  have hbd := seven_bd n
  rw [hb7] at hbd
  have hix := (Lib.run_indexAt_nil (P := Try.prog) wq 67 3 0 0 .i64 b7 Try.underlying67).trans (Lib.run_boundsPanic_index Try.prog b7 0 wq hbd.1 hbd.2)
  rw [rt_bm] at hix
  have HB := hide (hA.bel.trans ((below_drew1 wq).mono hA.bel.size))
  clear hA M5 b5 z5 hbd
  go_enter Try.func8, Try.ntmps8
  go_wp2_with fail
  exact ⟨rfl, ⟨_, rfl⟩, HB.out⟩
set_option maxRecDepth 100000 in
theorem end_boom (R : Rdr w g ro rn rc 0 false) (v : Value) : Calls Try.prog 24 #[ptr g, bmV v] w fun r w' => r = .returned (.int .i64 8) ∧ Ended w w' g 0 := by
  have z0 := R.z 0
  have x0 := R.c0
  have x1 := R.c1
  have x2 := R.c2
  have R1 := R.set0 none 0 0
  have z2 := R1.z 2
  have R2 := R1.set2 true
  have HK2 := ((Kg.refl w g).set 0 (.slice none 0 0)).set 2 (.bool true)
  obtain ⟨wa, hwa⟩ : ∃ wa, (w.setCell ⟨g, 0, none⟩ (.slice none 0 0)).setCell ⟨g, 2, none⟩ (.bool true) = wa := ⟨_, rfl⟩
  rw [hwa] at R2 HK2
  have ba := below_new wa (.cells #[.pointer none] 79)
  have R3 : Rdr (wa.alloc (.cells #[.pointer none] 79)) g none 0 0 0 true := (ba.block g R2.lt).trans R2
  have y1 := R3.c1
  have HE : Hid (Ended w (wa.alloc (.cells #[.pointer none] 79)) g 0) := ⟨R3, HK2.trans (Kg.of_below ba)⟩
  clear R R1 R2 HK2 R3 ba
  have hta := ta_bm v wa
  have hne := ne_bm v (wa.alloc (.cells #[.pointer none] 79))
  have heg := eg_bm v 46 (wa.alloc (.cells #[.pointer none] 79))
  obtain ⟨bv, hbv⟩ : ∃ bv, bmV v = bv := ⟨_, rfl⟩
  rw [hbv] at hta hne heg ⊢
  clear hbv
  go_enter Try.func24, Try.ntmps24
  go_wp2_with fail
  go_ret
  exact ⟨rfl, HE.out⟩
theorem closure_boom (R : Rdr w g ro rn rc 0 false) (v : Value) (x : Int) (V : Var w rv (ptr g) 25) (E : Var w ev (.int .i64 x) 26) (hn : ev ≠ g) :
    CallsD Try.prog 23 #[ptr rv, ptr ev] (.panicking (bmE v false)) w fun e u' w' => e = .returned (.tuple #[]) ∧ u' = .panicking (bmE v true) ∧ Fin w w' g ev 0 8 := by
  refine callsD_of_wpS Try.func23 rfl fun c₀ cs hu => ?_
  have x1 := V.drew.c
  refine wpS_region_two (by kernel_rfl) (by kernel_rfl) (by kernel_rfl) (by kernel_rfl) (by kernel_rfl) (by kernel_rfl) (by kernel_rfl) ?_ ?_
  all_goals
    simp [wpOpsS, go_sem, recoverD, hu, Try.ntmps23, x1]
    refine (end_boom R.drew v).mono ?_
    rintro e w3 ⟨rfl, hE⟩
    have V' : Var w3 ev (.int .i64 x) 26 := (hE.2.block ev E.lt hn).trans E
    have x2 := V'.c
    have x3 := V'.z
    have hF := (hE.fin (err := 8) E.drew hn).drew
    simp [go_sem, x2, x3]
    exact ⟨rfl, .panicking (bmE v true), by cases c₀; simp_all, _, results_none rfl _ _ _, rfl, rfl, hF⟩
/-- how f may end -/
inductive EndT (w2 : World) (g : Nat) : Ending → Int → Int → Prop
  | calm {so : Option Addr} {sn sc : Nat} : Rdr w2 g so sn sc 0 false → EndT w2 g (.returned (.tuple #[])) 0 (endA sn)
  | up {e : Int} : Rdr w2 g none 0 0 e false → e ≠ 0 → EndT w2 g (.panicked (ups g)) e e
  | boom {so : Option Addr} {sn sc : Nat} {v : Value} : Rdr w2 g so sn sc 0 false → EndT w2 g (.panicked (bmE v false)) 0 8
def RdPosT (n : Nat) (Q : Ending → World → Prop) (r : Ending) (w' : World) : Prop := ∃ e2 w2 gave err, Q e2 w2 ∧ EndT w2 (n + 1) e2 gave err ∧ r = .returned (.int .i64 err) ∧ Fin w2 w' (n + 1) n gave err
theorem readT_any (ro : Option Addr) (rn rc : Nat) (F : Nat) (caps : Array Value) (Q : Ending → World → Prop) (w : World) (hcf : ∀ (args : Array Value) (w : World), (callFunc F args).run Try.prog w = .ok (.enter F args) w)
    (hf : Calls Try.prog F (#[ptr (w.heap.size + 1)] ++ caps) (W0 w ro rn rc) Q)
    (hQ : ∀ e w2, Q e w2 → (∃ gave err, EndT w2 (w.heap.size + 1) e gave err) ∧ Var w2 (w.heap.size + 2) (ptr (w.heap.size + 1)) 25 ∧ Var w2 w.heap.size (.int .i64 0) 26) :
    Calls Try.prog 6 #[.slice ro rn rc, .func (.func F) #[] caps] w fun r w' => RdPosT w.heap.size Q r w' := by
  have hmf : ∀ (fn : Fn) (first cap : Array Value) (w : World), (Instr.makeFunc fn first cap).run Try.prog w = .ok (.func fn first cap) w := fun _ _ _ _ => rfl
  have hneq : ∀ w : World, (binOp .neq 33 (.func (.func F) #[] caps) .nilFunc).run Try.prog w = .ok (.bool true) w := fun _ => by kernel_rfl
  have HF := hide hf
  have HQ := hide hQ
  clear hf hQ
  go_enter_defers Try.func6, Try.ntmps6
  go_wp2_with fail
  refine HF.out.mono ?_
  intro e w2 hq
  obtain ⟨⟨gave, err, hE⟩, hV, hR⟩ := HQ.out e w2 hq
  have HX := hide hq
  have HV := hide (And.intro hV hR)
  have HE := hide hE
  clear hq hV hR
  cases hE with
  | @calm so sn sc R =>
    have y0 := HV.out.2.c
    have y1 := HV.out.2.z
    have HR := hide R
    clear R
    go_wp2_with fail
    have hs := HV.out.2.lt
    obtain ⟨w3, hw3⟩ : ∃ w3, w2.setCell ⟨w.heap.size, 0, none⟩ (.int .i64 0) = w3 := ⟨_, rfl⟩
    have R3 : Rdr w3 (w.heap.size + 1) so sn sc 0 false := by rw [← hw3]; exact (set_other w2 _ 0 _ _ (by omega)).trans HR.out
    have V3 : Var w3 (w.heap.size + 2) (ptr (w.heap.size + 1)) 25 := by rw [← hw3]; exact (set_other w2 _ 0 _ _ (by omega)).trans HV.out.1
    have E3 : Var w3 w.heap.size (.int .i64 0) 26 := by rw [← hw3]; exact set_heap w2 _ _ _ _ 0 _ HV.out.2
    rw [hw3]
    refine leaves_cons (f := 23) (args := #[ptr (w.heap.size + 2), ptr w.heap.size]) (by simp) (by simp [go_sem]) ?_
    refine (closure_calm R3 0 V3 E3 (by omega)).mono ?_
    rintro e u' w4 ⟨rfl, rfl, hF⟩
    have hc := hF.e
    have HF := hide (hF.pre hw3)
    clear hF
    simp [Leaves, settle, results, Try.results6, go_sem, hc]
    exact ⟨_, _, _, _, HX.out, HE.out, rfl, HF.out⟩
  | up R he =>
    have HR := hide R
    clear R
    go_wp2_with fail
    refine leaves_cons (f := 23) (args := #[ptr (w.heap.size + 2), ptr w.heap.size]) (by simp) (by simp [go_sem]) ?_
    refine (closure_up HR.out he 0 HV.out.1 HV.out.2 (by omega)).mono ?_
    rintro e u' w4 ⟨rfl, rfl, hF⟩
    have hc := hF.e
    have HF := hide hF
    clear hF
    simp [Leaves, settle, results, Try.results6, go_sem, hc]
    exact ⟨_, _, _, _, HX.out, HE.out, rfl, HF.out⟩
  | @boom so sn sc v R =>
    have HR := hide R
    clear R
    go_wp2_with fail
    refine leaves_cons (f := 23) (args := #[ptr (w.heap.size + 2), ptr w.heap.size]) (by simp) (by simp [go_sem]) ?_
    refine (closure_boom HR.out v 0 HV.out.1 HV.out.2 (by omega)).mono ?_
    rintro e u' w4 ⟨rfl, rfl, hF⟩
    have hc := hF.e
    have HF := hide hF
    clear hF
    simp [Leaves, settle, results, Try.results6, go_sem, hc]
    exact ⟨_, _, _, _, HX.out, HE.out, rfl, HF.out⟩
/-- Read with a nil function -/
theorem readN_any (ro : Option Addr) (rn rc : Nat) (w : World) : Calls Try.prog 6 #[.slice ro rn rc, .nilFunc] w fun r w' => r = .returned (.int .i64 (endA rn)) ∧ Below w.heap.size w w' := by
  have hmf : ∀ (fn : Fn) (first cap : Array Value) (w : World), (Instr.makeFunc fn first cap).run Try.prog w = .ok (.func fn first cap) w := fun _ _ _ _ => rfl
  have hneq : ∀ w : World, (binOp .neq 33 .nilFunc .nilFunc).run Try.prog w = .ok (.bool false) w := fun _ => by kernel_rfl
  have G := beg w ro rn rc
  obtain ⟨W1, hW1⟩ : ∃ W1, W0 w ro rn rc = W1 := ⟨_, rfl⟩
  rw [hW1] at G
  have hE := G.e
  have hR := G.r
  have hV := G.v
  have hsz := G.n.2
  have hb := G.b
  clear G
  have y0 := hE.c
  have y1 := hE.z
  have HE := hide hE
  have HR := hide hR
  have HV := hide hV
  have HB := hide hb
  unfold W0 at hW1
  clear hE hR hV hb
  go_enter_defers Try.func6, Try.ntmps6
  go_wp2_with fail
  obtain ⟨w3, hw3⟩ : ∃ w3, W1.setCell ⟨w.heap.size, 0, none⟩ (.int .i64 0) = w3 := ⟨_, rfl⟩
  have R3 : Rdr w3 (w.heap.size + 1) ro rn rc 0 false := by rw [← hw3]; exact (set_other W1 _ 0 _ _ (by omega)).trans HR.out
  have V3 : Var w3 (w.heap.size + 2) (ptr (w.heap.size + 1)) 25 := by rw [← hw3]; exact (set_other W1 _ 0 _ _ (by omega)).trans HV.out
  have E3 : Var w3 w.heap.size (.int .i64 0) 26 := by rw [← hw3]; exact set_heap W1 _ _ _ _ 0 _ HE.out
  rw [hw3]
  refine leaves_cons (f := 23) (args := #[ptr (w.heap.size + 2), ptr w.heap.size]) (by simp) (by simp [go_sem]) ?_
  refine (closure_calm R3 0 V3 E3 (by omega)).mono ?_
  rintro e u' w4 ⟨rfl, rfl, hF⟩
  have hc := hF.e
  have HF := hide (hF.pre hw3)
  clear hF
  simp [Leaves, settle, results, Try.results6, go_sem, hc]
  have h := HF.out
  exact ⟨h.os.trans HB.out.os, h.tape.trans HB.out.tape, h.output.trans HB.out.output, Nat.le_trans HB.out.size h.size, fun k hk => (h.block k (by omega) (by omega) (by omega)).trans (HB.out.block k hk)⟩
end Go.Proofs.Ytflinfmhmokfhaa
