/- The law's walked. -/
import Derived.Test.YtgnclfeicgbjpaaDWd
namespace Go.Proofs.Ytgnclfeicgbjpaa
open Go.RowKit Go.Shelf
attribute [local go_sem] Oper.semAt_some
variable {w w' w2 : World} {g B cap : Nat} {m nx : Int} {Z : List Int} {ao : Option Addr}

/-- the first most (below 0: all) -/
def cutI (l : List Int) (most : Int) : List Int := if most < 0 ∨ (l.length : Int) < most then l else l.take most.toNat
def numsF (f0 : Int) (k : Nat) : List Int := (List.range k).map (fun j : Nat => f0 + (j : Int))
theorem upto_fst (f0 : Int) (zs : List Int) (k : Nat) : (upto (wkp f0 zs) k).map Prod.fst = numsF f0 k := by simp [upto, wkp, numsF]
theorem upto_snd (f0 : Int) (zs : List Int) (k : Nat) (hk : k ≤ zs.length) : (upto (wkp f0 zs) k).map Prod.snd = zs.take k := by
  apply List.ext_getElem
  · simp [upto, hk]
  · intro i h1 h2
    have : i < zs.length := by simp [upto] at h1; omega
    simp [upto, wkp, this]
theorem numsF_len (f0 : Int) (k : Nat) : (numsF f0 k).length = k := by simp [numsF]
theorem numsF_take (f0 : Int) (n k : Nat) (h : k ≤ n) : (numsF f0 n).take k = numsF f0 k := by
  unfold numsF
  rw [← List.map_take, List.take_range]
  congr 2
  omega
theorem cut_all {l : List Int} {most : Int} (h : ∀ j : Nat, j ≤ l.length → (j : Int) ≠ most) : cutI l most = l := by
  unfold cutI
  rw [if_pos]
  by_cases h0 : most < 0
  · exact .inl h0
  · refine .inr ?_
    have := h most.toNat
    omega
theorem cut_some {l : List Int} {k : Nat} (h : k ≤ l.length) : cutI l (k : Int) = l.take k := by
  unfold cutI
  rw [if_neg (by omega), Int.toNat_natCast]
set_option maxRecDepth 100000 in
set_option maxHeartbeats 3200000 in
theorem walked_any (w : World) (L : Lg B w g m nx Z ao cap) (D : Bd m nx Z) (hz : Z.length ≤ 64) (n most : Int) : Calls Try.prog 24 #[ptr g, .int .i64 n, .int .i64 most] w fun e w' =>
    ∃ v1 v2, e = .returned (.tuple #[v1, v2]) ∧ w'.ownsRow w.heap.size 3 1 v1 (cutI (numsF (btw n (nx - Z.length) nx) (Z.length - cutN nx Z n)) most).length (ics (cutI (numsF (btw n (nx - Z.length) nx) (Z.length - cutN nx Z n)) most)) ∧ w'.ownsRow w.heap.size 3 1 v2 (cutI (Z.drop (cutN nx Z n)) most).length (ics (cutI (Z.drop (cutN nx Z n)) most)) ∧ Below w.heap.size w w' := by
  obtain ⟨f0, hf0⟩ : ∃ f0, btw n (nx - Z.length) nx = f0 := ⟨_, rfl⟩
  obtain ⟨k, hk⟩ : ∃ k, cutN nx Z n = k := ⟨_, rfl⟩
  obtain ⟨zs, hzs⟩ : ∃ zs, Z.drop k = zs := ⟨_, rfl⟩
  have hcl := cutN_le nx Z n
  rw [hk, hf0] at hcl
  have hzl : zs.length = Z.length - k := by rw [← hzs, List.length_drop]
  have hf1 : 0 ≤ f0 ∧ f0 ≤ 9000000000000000000 := by have := D.n0; have := D.n1; omega
  have HWk := hide (fun v (Lv : Lg B v g m nx Z ao cap) => walk_any v Lv D n)
  simp only [hf0, hk, hzs] at HWk
  rw [hf0, hk, hzs, ← hzl]
  have hlen : zs.length ≤ 64 := by omega
  obtain ⟨i0, hi, hz0, hz1, hz2⟩ := info_parts infoI
  have HL := hide L
  clear hf0 hk hzs hcl L hzl hz D
  have h1 : 1 ≤ 6 := by omega
  refine (callsIn_wide (n := 6)).1 ?_
  refine callsIn_of_wp_marks Try.func24 rfl trivial ?_ rfl
  simp only [Try.ntmps24, List.size_toArray, List.length_cons, List.length_nil, Nat.reduceAdd, Nat.reduceSub, Array.replicate_succ, Array.replicate_zero, List.push_toArray, List.append_toArray, List.nil_append, List.cons_append]
  by_cases hm0 : most = 0
  · have hmb : (most == 0) = true := by simpa using hm0
    have e1 : ∀ l : List Int, cutI l most = [] := fun l => by rw [hm0]; exact cut_some (k := 0) (Nat.zero_le _)
    rw [e1, e1]
    clear hm0
    gi_wp2
    refine ⟨_, results_tmp2 rfl _ _ _, ?_⟩
    exact ⟨_, _, rfl, World.ownsRow_nil _ _ _ _, World.ownsRow_nil _ _ _ _, (((Below.refl _ w).alloc (Nat.le_refl _) _).alloc (by simp) _).alloc (by simp; omega) _⟩
  · have hmb : (most == 0) = false := by simpa using hm0
    gi_wp2
    refine ⟨trivial, ?_⟩
    obtain ⟨w3, hw3⟩ : ∃ w3, ((w.alloc (Obj.cells #[Value.int IntKind.i64 most] 3)).alloc (Obj.cells #[Value.slice none 0 0] 38)).alloc (Obj.cells #[Value.slice none 0 0] 38) = w3 := ⟨_, rfl⟩
    have hb3 : Below w.heap.size w w3 := by rw [← hw3]; exact (((Below.refl _ w).alloc (Nat.le_refl _) _).alloc (by simp) _).alloc (by simp; omega) _
    have hs3 : w3.heap.size = w.heap.size + 3 := by rw [← hw3]; simp
    have x0 : Boxed w3 w.heap.size 3 (.int .i64 most) := by rw [← hw3]; exact ((Boxed.new w 3 _).alloc _).alloc _
    have x1 : Boxed w3 (w.heap.size + 1) 38 (.slice none 0 0) := by rw [← hw3]; have := (Boxed.new (w.alloc (.cells #[.int .i64 most] 3)) 38 (.slice none 0 0)).alloc (.cells #[.slice none 0 0] 38); rwa [World.size_alloc] at this
    have x2 : Boxed w3 (w.heap.size + 2) 38 (.slice none 0 0) := by rw [← hw3]; have := Boxed.new ((w.alloc (.cells #[.int .i64 most] 3)).alloc (.cells #[.slice none 0 0] 38)) 38 (.slice none 0 0); rwa [World.size_alloc, World.size_alloc] at this
    rw [hw3]
    refine (callsIn_wide.2 (HWk.out w3 (HL.out.below hb3))).mono ?_
    rintro e w4 ⟨Bi, Bf, sv, rfl, hBi1, hBi2, hBf1, hBf2, hci, hcf, hits, b4⟩
    rw [hs3] at hBi1 hBf1 hits b4
    have hb4 : Below w.heap.size w w4 := hb3.trans (b4.mono (by omega))
    have hq4 : w.heap.size + 3 ≤ w4.heap.size := by have := b4.size; omega
    have y0 : Boxed w4 w.heap.size 3 (.int .i64 most) := (b4.block _ (by omega)).trans x0
    have y1 : Boxed w4 (w.heap.size + 1) 38 (.slice none 0 0) := (b4.block _ (by omega)).trans x1
    have y2 : Boxed w4 (w.heap.size + 2) 38 (.slice none 0 0) := (b4.block _ (by omega)).trans x2
    have h0 : Wq w w4 w4.heap.size most [] [] (.slice none 0 0) (.slice none 0 0) := ⟨y0, y1, y2, World.ownsRow_nil _ _ _ _, World.ownsRow_nil _ _ _ _, (fun b e => by simp [Value.ownBlock] at e), hb4, hq4, Nat.le_refl _⟩
    clear hw3 x0 x1 x2 y0 y1 y2
    have hnf : ∀ v : World, (binOp BinOp.eql 35 (.func (.func 28) #[] #[.pointer (some ⟨Bi, 0, none⟩), .pointer (some ⟨Bf, 0, none⟩)]) .nilFunc).run Try.prog v = .ok (.bool false) v := fun v => by kernel_rfl
    gi_wp2
    refine wpIn_rangeFunc_ownG rfl h1 (gf := 28) (lb := #[.pointer (some ⟨Bi, 0, none⟩), .pointer (some ⟨Bf, 0, none⟩)]) rfl trivial (enters_of Try.func28 (by kernel_rfl) rfl)
      (walk_stops Fence.wide (6 - 1) trivial rfl (by omega) Bi Bf (w.heap.size + 3) w4.heap.size f0 sv zs (by omega) hf1.1 hf1.2 hBf1 hBf2 hBi2 w4 (Nat.le_refl _) hci hcf hits) (fun h k => h.trans k) (mid_b (Nat.le_refl _)) (Below.refl _ _) (fun _ => rfl)
      (fun pre W => ∃ v1 v2, Wq w W w4.heap.size most (pre.map Prod.fst) (pre.map Prod.snd) v1 v2 ∧ ∀ j : Nat, j ≤ pre.length → (j : Int) ≠ most)
      (fun c pre W => c = .exit 0 ∧ ∃ v1 v2, Wq w W w4.heap.size most (pre.map Prod.fst) (pre.map Prod.snd) v1 v2 ∧ (pre.length : Int) = most)
      (fun s A B row hs hg hr => by obtain ⟨v1, v2, hW, hj⟩ := hs; exact ⟨v1, v2, hW.own (Nat.le_refl _) hg hr, hj⟩)
      (fun c s A B row hs hg hr => by obtain ⟨hc, v1, v2, hW, hj⟩ := hs; exact ⟨hc, v1, v2, hW.own (Nat.le_refl _) hg hr, hj⟩)
      ⟨_, _, h0, fun j hj e => hm0 (by simp at hj; subst hj; exact e.symm)⟩
      (fun x => { tmps := #[ptr g, .int .i64 n, .int .i64 most, undef, undef, .pointer (some ⟨w.heap.size, 0, none⟩), .slice none 0 0, .slice none 0 0, .pointer (some ⟨w.heap.size + 1, 0, none⟩), .pointer (some ⟨w.heap.size + 1 + 1, 0, none⟩), .func (.func 28) #[] #[.pointer (some ⟨Bi, 0, none⟩), .pointer (some ⟨Bf, 0, none⟩)], .int .i64 x.1, .int .i64 x.2, .int .i64 most, .bool false, ptr g, .int .i64 n, .func (.func 28) #[] #[.pointer (some ⟨Bi, 0, none⟩), .pointer (some ⟨Bf, 0, none⟩)], .func (.func 28) #[] #[.pointer (some ⟨Bi, 0, none⟩), .pointer (some ⟨Bf, 0, none⟩)], .bool false, undef, undef, .func (.func 28) #[] #[.pointer (some ⟨Bi, 0, none⟩), .pointer (some ⟨Bf, 0, none⟩)], .int .i64 x.1, .int .i64 x.2, undef, undef, undef, undef, undef, undef, undef, undef, undef, undef, undef, undef, undef, undef, undef, undef, undef, undef, undef], defers := [] }) ?assign ?body ?done ?stop
    case assign =>
      intro l x W K hK
      gi_wp2
      exact hK
    case body =>
      rintro l pre x W ⟨v1, v2, hW, hj⟩ hlt
      obtain ⟨X, hX⟩ : ∃ X, pre.map Prod.fst = X := ⟨_, rfl⟩
      obtain ⟨Y, hY⟩ : ∃ Y, pre.map Prod.snd = Y := ⟨_, rfl⟩
      have hXl : X.length = pre.length := by rw [← hX]; simp
      have hYl : Y.length = pre.length := by rw [← hY]; simp
      rw [hX, hY] at hW
      have HX1 : Hid ((pre ++ [x]).map Prod.fst = X ++ [x.1]) := by show _ = _; rw [List.map_append, hX]; rfl
      have HY1 : Hid ((pre ++ [x]).map Prod.snd = Y ++ [x.2]) := by show _ = _; rw [List.map_append, hY]; rfl
      have HJ := hide hj
      have HP : Hid (X.length = pre.length) := hXl
      have hxb : X.length + 1 ≤ 64 := by omega
      have hyb : Y.length + 1 ≤ 64 := by omega
      have hx64 : ¬ (64 : Int) < (X.length : Int) + 1 := by omega
      have hc1 := hW.b1.cell
      have hWs := hW.hs
      clear hX hY hXl hYl hj hlt
      by_cases hms : (X.length : Int) + 1 = most
      · have em : ((X.length : Int) + 1 == most) = true := by simpa using hms
        have HMs := hide hms
        clear hms
        gi_wp2_with (first | (have hh := hW5; clear hh; gi_at_builtin; go_loud (refine wpListIn_append_own_at _ rfl _ _ 38 rfl w4.heap.size 3 i0 (.int .i64 0) 1 8 Try.underlying38 hi hz0 hz1 hz2 rfl (by decide) _ _ _ rfl (hW5.r2.alloc _) _ 1 1 [.int .i64 x.2] rfl rfl (by first | exact cell_one_new _ _ _ | exact cell_one_new' _ _ _ _ (by simp)) (by simp [Value.oneCell']) (by unfold maxLen; omega) (by omega) (by first | (simp; omega) | (simp at hs5 ⊢; omega)) ?_); intro v2' w7 hown2 hgrow2 _ hat2; obtain ⟨g2, cap2, hv2'⟩ := ownsRow_succ hown2; subst hv2'; obtain ⟨⟨t0, t1, t2⟩, hW7, hk7, hm7⟩ := hW5.app2 hown2 hgrow2 hat2; have hd2 : w7.cell? ⟨w.heap.size + 1 + 1, 0, none⟩ = some v2 := t2.cell; have he2 : w7.frozen? ⟨w.heap.size + 1 + 1, 0, none⟩ = false := t2.frozen; have hd1 := t1.cell; have hd0 := t0.cell; clear hW5 hown2 hgrow2 hat2) | (gi_at_builtin; refine wpListIn_append_own_at _ rfl _ _ 38 rfl w4.heap.size 3 i0 (.int .i64 0) 1 8 Try.underlying38 hi hz0 hz1 hz2 rfl (by decide) _ _ _ rfl (hW.r1.alloc _) ⟨W.heap.size, 0, none⟩ 1 1 [.int .i64 x.1] rfl rfl (cell_one_new _ _ _) (by simp [Value.oneCell']) (by unfold maxLen; omega) (by omega) (by simp; omega) ?_; intro v1' w5 hown1 hgrow1 _ hat1; obtain ⟨g1, cap1, hv1'⟩ := ownsRow_succ hown1; subst hv1'; obtain ⟨⟨z0, z1, z2⟩, hW5, hk5, hm5⟩ := hW.app1 hown1 hgrow1 hat1; have hc1' := z1.cell; have hf1' := z1.frozen; have hc2 : w5.cell? ⟨w.heap.size + 1 + 1, 0, none⟩ = some v2 := z2.cell; have hs5 := hW5.hs; clear hW hc1 hown1 hgrow1 hat1))
        have hWq := hW7
        rw [← HX1.out, ← HY1.out] at hWq
        have hLn : ((pre ++ [x]).length : Int) = most := by rw [List.length_append, List.length_singleton]; have := HP.out; have := HMs.out; omega
        first | exact ⟨((hk5.trans hk7).from _), rfl, ⟨_, _, hWq⟩, hLn⟩ | exact ⟨((hk5.trans hk7).from _), ⟨_, _, hWq⟩, hLn⟩
      · have em : ((X.length : Int) + 1 == most) = false := by simpa using hms
        have HMs := hide hms
        clear hms
        gi_wp2_with (first | (have hh := hW5; clear hh; gi_at_builtin; go_loud (refine wpListIn_append_own_at _ rfl _ _ 38 rfl w4.heap.size 3 i0 (.int .i64 0) 1 8 Try.underlying38 hi hz0 hz1 hz2 rfl (by decide) _ _ _ rfl (hW5.r2.alloc _) _ 1 1 [.int .i64 x.2] rfl rfl (by first | exact cell_one_new _ _ _ | exact cell_one_new' _ _ _ _ (by simp)) (by simp [Value.oneCell']) (by unfold maxLen; omega) (by omega) (by first | (simp; omega) | (simp at hs5 ⊢; omega)) ?_); intro v2' w7 hown2 hgrow2 _ hat2; obtain ⟨g2, cap2, hv2'⟩ := ownsRow_succ hown2; subst hv2'; obtain ⟨⟨t0, t1, t2⟩, hW7, hk7, hm7⟩ := hW5.app2 hown2 hgrow2 hat2; have hd2 : w7.cell? ⟨w.heap.size + 1 + 1, 0, none⟩ = some v2 := t2.cell; have he2 : w7.frozen? ⟨w.heap.size + 1 + 1, 0, none⟩ = false := t2.frozen; have hd1 := t1.cell; have hd0 := t0.cell; clear hW5 hown2 hgrow2 hat2) | (gi_at_builtin; refine wpListIn_append_own_at _ rfl _ _ 38 rfl w4.heap.size 3 i0 (.int .i64 0) 1 8 Try.underlying38 hi hz0 hz1 hz2 rfl (by decide) _ _ _ rfl (hW.r1.alloc _) ⟨W.heap.size, 0, none⟩ 1 1 [.int .i64 x.1] rfl rfl (cell_one_new _ _ _) (by simp [Value.oneCell']) (by unfold maxLen; omega) (by omega) (by simp; omega) ?_; intro v1' w5 hown1 hgrow1 _ hat1; obtain ⟨g1, cap1, hv1'⟩ := ownsRow_succ hown1; subst hv1'; obtain ⟨⟨z0, z1, z2⟩, hW5, hk5, hm5⟩ := hW.app1 hown1 hgrow1 hat1; have hc1' := z1.cell; have hf1' := z1.frozen; have hc2 : w5.cell? ⟨w.heap.size + 1 + 1, 0, none⟩ = some v2 := z2.cell; have hs5 := hW5.hs; clear hW hc1 hown1 hgrow1 hat1))
        have hWq := hW7
        rw [← HX1.out, ← HY1.out] at hWq
        have hLn : ∀ j : Nat, j ≤ (pre ++ [x]).length → ¬ (j : Int) = most := fun j hj => by
          rw [List.length_append, List.length_singleton] at hj
          by_cases h : j ≤ pre.length
          · exact HJ.out j h
          · have := HP.out
            have := HMs.out
            omega
        exact ⟨((hk5.trans hk7).from _), hm5.trans hm7, ⟨_, _, hWq⟩, hLn⟩
    case done =>
      rintro D ys W hD rfl ⟨v1, v2, hW, hj⟩ hK
      rw [upto_fst, upto_snd f0 zs _ (Nat.le_refl _), List.take_length] at hW
      rw [upto_length] at hj
      have HcX := hide (cut_all (l := numsF f0 zs.length) (by rw [numsF_len]; exact hj))
      have HcY := hide (cut_all (l := zs) hj)
      have hc1 := hW.b1.cell
      have hc2 : W.cell? ⟨w.heap.size + 1 + 1, 0, none⟩ = some v2 := hW.b2.cell
      gi_wp2
      have hfm : Try.prog.follows Departure.mixedOrders = true := by kernel_rfl
      gi_region
      gi_wp2
      have hr1 : (W.drew.putObj D (.deferred none)).ownsRow w.heap.size 3 1 v1 _ _ := own_down (ownsRow_putObj (W := W.drew) hW.r1 (.deferred none) hK rfl) (by have := hW.hq; omega)
      have hr2 : (W.drew.putObj D (.deferred none)).ownsRow w.heap.size 3 1 v2 _ _ := own_down (ownsRow_putObj (W := W.drew) hW.r2 (.deferred none) hK rfl) (by have := hW.hq; omega)
      have hbD : Below w.heap.size w (W.drew.putObj D (.deferred none)) := (hW.bl.trans ((below_drew1 W).mono hW.bl.size)).trans (belowK_b (w := w) (Nat.le_refl _) W.drew D _ _ (by have := hW.hq; omega) hK rfl rfl)
      refine ⟨by simp, .inl ⟨_, _, rfl, run_takeDeferred (w := W.drew) hK, ?_⟩⟩
      exact ⟨_, results_tmp2 rfl _ _ _, v1, v2, rfl, by rw [HcX.out]; exact hr1, by rw [HcY.out]; exact hr2, hbD⟩
    case stop =>
      rintro D c pre W hD ⟨q, hq, rfl⟩ ⟨rfl, v1, v2, hW, hj⟩ hK
      rw [upto_fst, upto_snd f0 zs q hq] at hW
      rw [upto_length] at hj
      have HcX : Hid (cutI (numsF f0 zs.length) most = numsF f0 q) := by show _ = _; rw [← hj, cut_some (l := numsF f0 zs.length) (by rw [numsF_len]; exact hq), numsF_take f0 _ q hq]
      have HcY : Hid (cutI zs most = zs.take q) := by show _ = _; rw [← hj, cut_some hq]
      have hc1 := hW.b1.cell
      have hc2 : W.cell? ⟨w.heap.size + 1 + 1, 0, none⟩ = some v2 := hW.b2.cell
      gi_wp2
      have hfm : Try.prog.follows Departure.mixedOrders = true := by kernel_rfl
      gi_region
      gi_wp2
      have hr1 : (W.drew.putObj D (.deferred none)).ownsRow w.heap.size 3 1 v1 _ _ := own_down (ownsRow_putObj (W := W.drew) hW.r1 (.deferred none) hK rfl) (by have := hW.hq; omega)
      have hr2 : (W.drew.putObj D (.deferred none)).ownsRow w.heap.size 3 1 v2 _ _ := own_down (ownsRow_putObj (W := W.drew) hW.r2 (.deferred none) hK rfl) (by have := hW.hq; omega)
      have hbD : Below w.heap.size w (W.drew.putObj D (.deferred none)) := (hW.bl.trans ((below_drew1 W).mono hW.bl.size)).trans (belowK_b (w := w) (Nat.le_refl _) W.drew D _ _ (by have := hW.hq; omega) hK rfl rfl)
      refine ⟨by simp, .inl ⟨_, _, rfl, run_takeDeferred (w := W.drew) hK, ?_⟩⟩
      exact ⟨_, results_tmp2 rfl _ _ _, v1, v2, rfl, by rw [HcX.out]; exact hr1, by rw [HcY.out]; exact hr2, hbD⟩
end Go.Proofs.Ytgnclfeicgbjpaa
