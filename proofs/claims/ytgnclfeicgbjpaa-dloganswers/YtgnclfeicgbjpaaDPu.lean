/- dlog's Push. -/
import Derived.Test.YtgnclfeicgbjpaaDTr
import Derived.Deep.RegionWith
namespace Go.Proofs.Ytgnclfeicgbjpaa
open Go.RowKit
variable {B : Nat} {w w' : World} {g : Nat} {m nx : Int} {Z : List Int} {ao : Option Addr} {cap : Nat}

theorem infoI : (Try.prog.info? 3).map (fun i => (i.zero, i.size, i.bytes)) = some (some (.int .i64 0), 1, 8) := by kernel_rfl
/-- a number is appended, as an operation -/
theorem append1 (x : Int) (O : w.ownsRow B 3 1 (.slice ao Z.length cap) Z.length (ics Z)) (ad : Addr) (c : Nat) (hx1 : w.cell? ad = some (.int .i64 x)) (hlen : Z.length ≤ 4400000000000) (hB : B ≤ w.heap.size)
    {ops : Array Oper} {rest : List Oper} {o : Oper} {a : Act} {Q : Exit → Act → World → Prop} (hgd : o.guard = none) (s y : Operand) (ho : o.op = .call { callee := .builtin .append, args := #[s, y], argTypes := #[38, 38] })
    (hs : a.eval s = .slice ao Z.length cap) (hy : a.eval y = .slice (some ad) 1 c)
    (hK : ∀ (bo : Option Addr) (cap2 : Nat) (w2 : World), w2.ownsRow B 3 1 (.slice bo (Z ++ [x]).length cap2) (Z ++ [x]).length (ics (Z ++ [x])) →
      Kp w w2 w2.heap.size ao → (∀ ad', bo = some ad' → (∃ ad, ao = some ad ∧ ad.block = ad'.block) ∨ w.heap.size ≤ ad'.block) → wpList Try.prog ops Q rest (a.put o.dst (.slice bo (Z.length + 1) cap2)) w2) :
    wpList Try.prog ops Q (o :: rest) a w := by
  obtain ⟨i0, hi, hz0, hz1, hz2⟩ := info_parts infoI
  refine wpList_append_own_at _ hgd s y 38 ho B 3 i0 (.int .i64 0) 1 8 Try.underlying38 hi hz0 hz1 hz2 rfl (by decide) _ Z.length (ics Z) hs O ad 1 c (ics [x]) hy rfl (fun j u hj => ?_) (ics_one [x]) (by unfold maxLen; omega) (by omega) hB ?_
  · obtain rfl : j = 0 := by
      have := (List.getElem?_eq_some_iff.1 hj).1
      rw [ics_length] at this
      simpa using this
    rw [ics_at [x] 0 (by simp)] at hj
    rw [show ad.add 0 = ad by unfold Addr.add; split <;> simp_all, hx1]
    exact hj
  intro v' w2 hown hgrow _ hat
  rw [← ics_append] at hown
  have hk : Kp w w2 w2.heap.size ao := ⟨hgrow.os, hgrow.tape, hgrow.output, hgrow.size, fun k hk _ hne => hgrow.block k hk (fun e => by
    cases ao with
    | none => cases e
    | some ad => exact hne ad rfl (Option.some.inj e).symm)⟩
  rcases hown.2 with ⟨h0, h00⟩ | ⟨q, cap2, cur, hv, r⟩
  · omega
  · subst hv
    refine hK (some ⟨q, 0, none⟩) cap2 w2 (by rw [List.length_append]; exact hown) hk (fun ad' e => ?_)
    obtain rfl := Option.some.inj e
    rcases hat with h | h
    · cases ao with
      | none => cases h
      | some ad => exact Or.inl ⟨ad, rfl, (Option.some.inj h).symm⟩
    · right
      have : q = w.heap.size := Option.some.inj h
      show w.heap.size ≤ q
      omega
/-- the row lies where it lay, or in new memory -/
def Nw (w : World) (ao bo : Option Addr) : Prop := ∀ ad', bo = some ad' → (∃ ad, ao = some ad ∧ ad.block = ad'.block) ∨ w.heap.size ≤ ad'.block
/-- what is held behind a push -/
def pushed (m nx : Int) (Z : List Int) (t : Int) : List Int := (Z ++ [t]).drop (cutN (nx + 1) (Z ++ [t]) (nx + 1 - m))
theorem pushed_mid {w1 w2 : World} {t : Int} {bo : Option Addr} {cap2 : Nat} (L : Lg B w1 g m nx Z ao cap) (K : Kp w w1 g ao) (_ : g < w.heap.size) (_ : ∀ ad, ao = some ad → ad.block < w.heap.size)
    (o2 : w2.ownsRow B 3 1 (.slice bo (Z ++ [t]).length cap2) (Z ++ [t]).length (ics (Z ++ [t]))) (k2 : Kp w1 w2 w2.heap.size ao) (n2 : ∀ ad', bo = some ad' → (∃ ad, ao = some ad ∧ ad.block = ad'.block) ∨ w1.heap.size ≤ ad'.block) :
    w2.cell? ⟨g, 1, none⟩ = some (.int .i64 nx) ∧ w2.cell? ⟨g, 2, none⟩ = some (.slice ao Z.length cap) ∧ w2.frozen? ⟨g, 2, none⟩ = false ∧ w2.frozen? ⟨g, 1, none⟩ = false ∧ (w2.cell? ⟨g, 1, none⟩).isSome = true ∧
      Hid (Lg B ((w2.setCell ⟨g, 2, none⟩ (.slice bo (Z.length + 1) cap2)).setCell ⟨g, 1, none⟩ (.int .i64 (wrap64 (nx + 1)))) g m (wrap64 (nx + 1)) (Z ++ [t]) bo cap2 ∧
        Kp w ((w2.setCell ⟨g, 2, none⟩ (.slice bo (Z.length + 1) cap2)).setCell ⟨g, 1, none⟩ (.int .i64 (wrap64 (nx + 1)))) g ao ∧ Nw w ao bo) := by
  have hsz := k2.size
  have hs1 := K.size
  have hx := (k2.block g L.lt (by have := L.lt; omega) L.off).trans L.box
  have hf : ∀ ad, bo = some ad → ad.block ≠ g := fun ad e => by
    rcases n2 ad e with ⟨ad', e', he⟩ | h
    · rw [← he]; exact L.off ad' e'
    · have := L.lt; omega
  have hn : Nw w ao bo := fun ad e => by
    rcases n2 ad e with h | h
    · exact Or.inl h
    · exact Or.inr (by omega)
  have k3 : Kp w1 w2 g ao := ⟨k2.os, k2.tape, k2.output, k2.size, fun i hi _ h => k2.block i hi (by omega) h⟩
  have h2 := Lg.set2 hx L.hg o2 hf
  have e : (Z ++ [t]).length = Z.length + 1 := by simp
  rw [e] at h2
  have h3 := h2.1.set1 (wrap64 (nx + 1))
  have kk := (K.trans k3 (fun ad e => Or.inl ⟨ad, e, rfl⟩)).trans h2.2 (fun ad e => Or.inl ⟨ad, e, rfl⟩)
  exact ⟨by simp [World.cell?, hx, GC], by simp [World.cell?, hx, GC], by simp [World.frozen?, hx], by simp [World.frozen?, hx], by simp [World.cell?, hx, GC], h3.1, kk.trans h3.2 hn, hn⟩
set_option maxRecDepth 100000 in
set_option maxHeartbeats 1000000 in
theorem push_any (w : World) (L : Lg B w g m nx Z ao cap) (D : Bd m nx Z) (hz : Z.length ≤ 64) (hn : nx < 9000000000000000000) (t : Int) : Calls Try.prog 11 #[ptr g, .int .i64 t] w fun e w' =>
    ∃ bo cap2, e = .returned (.int .i64 nx) ∧ Lg B w' g m (nx + 1) (pushed m nx Z t) bo cap2 ∧ Kp w w' g ao ∧ Nw w ao bo := by
  have HW1 : Hid (wrap64 (nx + 1) = nx + 1) := w64 (by have := D.n0; omega) (by omega)
  have HW2 : Hid (IntKind.i64.wrap (nx + 1 - m) = nx + 1 - m) := by show _ = _; have := D.n0; have := D.m1; have := D.m0; rw [IntKind.wrap_i64]; omega
  have HD2 : Hid (Bd m (nx + 1) (Z ++ [t])) := ⟨D.m0, D.m1, by have := D.n0; simp; omega, by omega, by simp; omega⟩
  have HZ := hide hz
  unfold pushed
  have HL := hide L
  have HB : Hid (B ≤ (w.alloc (.cells #[.int .i64 t] 3)).heap.size) := by show _ ≤ _; have := L.hg; have := L.lt; simp; omega
  have HL1 := hide (L.below (below_new w (.cells #[.int .i64 t] 3)))
  have HC : Hid ((w.alloc (.cells #[.int .i64 t] 3)).cell? ⟨w.heap.size, 0, none⟩ = some (.int .i64 t)) := by show _ = _; rw [World.cell?_alloc_new]; rfl
  have HK1 : Hid (Kp w (w.alloc (.cells #[.int .i64 t] 3)) g ao) := Kp.of (below_new w _)
  have HLT : Hid (∀ ad, ao = some ad → ad.block < w.heap.size) := fun ad e => (L.row ad e).2
  have HG : Hid (g < w.heap.size) := L.lt
  have c1 := L.c1
  have c2 := L.c2
  clear L D hz hn
  go_enter Try.func11, Try.ntmps11
  go_wp2_with (at_builtin; refine append1 t HL1.out.own ⟨w.heap.size, 0, none⟩ 1 HC.out (by have := HZ.out; omega) HB.out rfl (.tmp 14) (.tmp 16) rfl rfl rfl ?_; intro bo cap2 w2 o2 k2 n2; obtain ⟨s2, s3, s4, s5, s6, HS⟩ := pushed_mid HL1.out HK1.out HG.out HLT.out o2 k2 n2; clear o2 k2 n2 c1 c2)
  rw [HW1.out]
  rw [HW1.out] at HS
  generalize (w2.setCell ⟨g, 2, none⟩ (.slice bo (Z.length + 1) cap2)).setCell ⟨g, 1, none⟩ (.int .i64 (nx + 1)) = w4 at HS ⊢
  have HL4 := HS
  clear HS s2 s3 s4 s5 s6 w2 HL1 HC HB HK1 HL HW1
  refine wp_region_held_drew (S := fun W => W.cell? ⟨g, 0, none⟩ = some (.int .i64 m) ∧ W.cell? ⟨g, 1, none⟩ = some (.int .i64 (nx + 1))) (by kernel_rfl) ⟨HL4.out.1.c0, HL4.out.1.c1⟩ (fun hHeld => ?_)
  refine wpAnyH_take (i := 0) (oi := { dst := some 27, op := Op.move (Operand.tmp 0), type := 26, pos := "dlog.go:30", after := #[], guard := none }) (v := ?_) rfl (by kernel_rfl) (by kernel_rfl) (by kernel_rfl) (fun _ _ _ h => h) (Or.inl ⟨by rfl, ?_⟩) (by assumption) ?_
  rotate_left
  · (intro w hSw; (try dsimp only at hSw); go_simp); first | done | with_reducible rfl
  simp only [Act.put, List.setIfInBounds_toArray, List.set_cons_zero, List.set_cons_succ]
  refine wpAnyH_take (i := 1) (oi := { dst := some 28, op := Op.move (Operand.tmp 0), type := 26, pos := "dlog.go:30", after := #[], guard := none }) (v := ?_) rfl (by kernel_rfl) (by kernel_rfl) (by kernel_rfl) (fun _ _ _ h => h) (Or.inl ⟨by rfl, ?_⟩) (by assumption) ?_
  rotate_left
  · (intro w hSw; (try dsimp only at hSw); go_simp); first | done | with_reducible rfl
  simp only [Act.put, List.setIfInBounds_toArray, List.set_cons_zero, List.set_cons_succ]
  refine wpAnyH_take (i := 2) (oi := { dst := some 29, op := Op.nilCheck (Operand.tmp 28), type := 0, pos := "dlog.go:30", after := #[{ on := 1, ground := Ground.data }], guard := none }) (v := ?_) rfl (by kernel_rfl) (by kernel_rfl) (by kernel_rfl) (fun _ _ _ h => h) (Or.inl ⟨by rfl, ?_⟩) (by assumption) ?_
  rotate_left
  · (intro w hSw; (try dsimp only at hSw); go_simp); first | done | with_reducible rfl
  simp only [Act.put, List.setIfInBounds_toArray, List.set_cons_zero, List.set_cons_succ]
  refine wpAnyH_take (i := 3) (oi := { dst := some 30, op := Op.fieldAddr 47 (Operand.tmp 29) 1, type := 0, pos := "dlog.go:30", after := #[{ on := 2, ground := Ground.data }], guard := none }) (v := ?_) rfl (by kernel_rfl) (by kernel_rfl) (by kernel_rfl) (fun _ _ _ h => h) (Or.inl ⟨by rfl, ?_⟩) (by assumption) ?_
  rotate_left
  · (intro w hSw; (try dsimp only at hSw); go_simp); first | done | with_reducible rfl
  simp only [Act.put, List.setIfInBounds_toArray, List.set_cons_zero, List.set_cons_succ]
  refine wpAnyH_take (i := 4) (oi := { dst := some 31, op := Op.load 3 (Operand.tmp 30), type := 3, pos := "dlog.go:30", after := #[{ on := 3, ground := Ground.data }], guard := none }) (v := ?_) rfl (by kernel_rfl) (by kernel_rfl) (by kernel_rfl) (fun _ _ _ h => h) (Or.inl ⟨by rfl, ?_⟩) (by assumption) ?_
  rotate_left
  · (intro w hSw; (try dsimp only at hSw); go_simp); first | done | with_reducible rfl
  simp only [Act.put, List.setIfInBounds_toArray, List.set_cons_zero, List.set_cons_succ]
  refine wpAnyH_take (i := 5) (oi := { dst := some 32, op := Op.move (Operand.tmp 0), type := 26, pos := "dlog.go:30", after := #[], guard := none }) (v := ?_) rfl (by kernel_rfl) (by kernel_rfl) (by kernel_rfl) (fun _ _ _ h => h) (Or.inl ⟨by rfl, ?_⟩) (by assumption) ?_
  rotate_left
  · (intro w hSw; (try dsimp only at hSw); go_simp); first | done | with_reducible rfl
  simp only [Act.put, List.setIfInBounds_toArray, List.set_cons_zero, List.set_cons_succ]
  refine wpAnyH_take (i := 6) (oi := { dst := some 33, op := Op.nilCheck (Operand.tmp 32), type := 0, pos := "dlog.go:30", after := #[{ on := 5, ground := Ground.data }], guard := none }) (v := ?_) rfl (by kernel_rfl) (by kernel_rfl) (by kernel_rfl) (fun _ _ _ h => h) (Or.inl ⟨by rfl, ?_⟩) (by assumption) ?_
  rotate_left
  · (intro w hSw; (try dsimp only at hSw); go_simp); first | done | with_reducible rfl
  simp only [Act.put, List.setIfInBounds_toArray, List.set_cons_zero, List.set_cons_succ]
  refine wpAnyH_take (i := 7) (oi := { dst := some 34, op := Op.fieldAddr 47 (Operand.tmp 33) 0, type := 0, pos := "dlog.go:30", after := #[{ on := 6, ground := Ground.data }], guard := none }) (v := ?_) rfl (by kernel_rfl) (by kernel_rfl) (by kernel_rfl) (fun _ _ _ h => h) (Or.inl ⟨by rfl, ?_⟩) (by assumption) ?_
  rotate_left
  · (intro w hSw; (try dsimp only at hSw); go_simp); first | done | with_reducible rfl
  simp only [Act.put, List.setIfInBounds_toArray, List.set_cons_zero, List.set_cons_succ]
  refine wpAnyH_take (i := 8) (oi := { dst := some 35, op := Op.load 3 (Operand.tmp 34), type := 3, pos := "dlog.go:30", after := #[{ on := 7, ground := Ground.data }], guard := none }) (v := ?_) rfl (by kernel_rfl) (by kernel_rfl) (by kernel_rfl) (fun _ _ _ h => h) (Or.inl ⟨by rfl, ?_⟩) (by assumption) ?_
  rotate_left
  · (intro w hSw; (try dsimp only at hSw); go_simp); first | done | with_reducible rfl
  simp only [Act.put, List.setIfInBounds_toArray, List.set_cons_zero, List.set_cons_succ]
  refine wpAnyH_take (i := 9) (oi := { dst := some 36, op := Op.binOp BinOp.sub 3 (Operand.tmp 31) (Operand.tmp 35) 3, type := 3, pos := "dlog.go:30", after := #[{ on := 4, ground := Ground.data }, { on := 8, ground := Ground.data }], guard := none }) (v := ?_) rfl (by kernel_rfl) (by kernel_rfl) (by kernel_rfl) (fun _ _ _ h => h) (Or.inl ⟨by rfl, ?_⟩) (by assumption) ?_
  rotate_left
  · (intro w hSw; (try dsimp only at hSw); go_simp); first | done | with_reducible rfl
  simp only [Act.put, List.setIfInBounds_toArray, List.set_cons_zero, List.set_cons_succ]
  rw [HW2.out]
  refine wpAnyH_ready (rs := [10]) (by kernel_rfl) (by simp) ?_
  refine AllReadyH.cons rfl (fun K hK => ?_) ?_
  rotate_left
  · exact AllReadyH.nil
  go_simp
  go_wp2_with fail
  refine (trim_any w4.drew (HL4.out.1.below (below_drew1 w4)) HD2.out (nx + 1 - m)).mono ?_
  rintro e w5 ⟨rfl, L5, k5⟩
  have HFin : Hid (Lg B w5 g m (nx + 1) ((Z ++ [t]).drop (cutN (nx + 1) (Z ++ [t]) (nx + 1 - m))) bo cap2 ∧ Kp w w5 g ao ∧ Nw w ao bo) := ⟨L5, HL4.out.2.1.trans ((Kp.of (below_drew1 w4) : Kp w4 w4.drew g bo).trans k5 (fun ad e => Or.inl ⟨ad, e, rfl⟩)) HL4.out.2.2, HL4.out.2.2⟩
  refine hK.out _ _ ⟨L5.c0, L5.c1⟩ (fun hHeld => ?_)
  clear hK K L5 k5
  refine wpAnyH_done (by kernel_rfl) ?_ _
  clear hHeld
  go_wp2_with fail
  go_ret
  exact ⟨bo, cap2, rfl, HFin.out⟩
end Go.Proofs.Ytgnclfeicgbjpaa
