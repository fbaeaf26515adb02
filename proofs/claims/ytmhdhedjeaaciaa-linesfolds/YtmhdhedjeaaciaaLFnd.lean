/- Find and the reference's: their contracts. -/
import Derived.Test.YtmhdhedjeaaciaaLOnc
namespace Go.Proofs.Ytmhdhedjeaaciaa
open Go.RowKit
attribute [local go_sem ↓] ld28_eq st28_eq ld26_eq run_eqD run_eq28
attribute [local go_sem] zero_EC cells_EV EC_size

/-- the block g holds a dot -/
structure DotAt (w : World) (g : Nat) (e : En) : Prop where
  c0 : w.cell? ⟨g, 0, none⟩ = some (.int .i64 e.rep)
  c1 : w.cell? ⟨g, 1, none⟩ = some (.int .i64 e.num)
theorem DotAt.on {w w' : World} {g : Nat} {e : En} (D : DotAt w g e) (hb : Below w.heap.size w w') : DotAt w' g e :=
  ⟨(hb.cell (World.block_lt_of_cell? _ _ D.c0)).trans D.c0, (hb.cell (World.block_lt_of_cell? _ _ D.c1)).trans D.c1⟩
theorem dot_new (w : World) (e : En) : DotAt (w.alloc (.cells (DC e) 38)) w.heap.size e := ⟨by simp [DC], by simp [DC]⟩
theorem run_ldD {w : World} {g : Nat} {e : En} (D : DotAt w g e) : (ld26 (.pointer (some ⟨g, 0, none⟩))).run Try.prog w = .ok (.agg (DC e)) w := by
  have hl := run_loadCells_list (P := Try.prog) (w := w) ⟨g, 0, none⟩ (DC e).toList (fun j v hv => by
    match j, hv with
    | 0, hv => cases hv; rw [add_zero]; exact D.c0
    | 1, hv => cases hv; rw [Addr.add_lit]; exact D.c1
    | j + 2, hv => simp [DC] at hv)
  cases hq : Try.prog.info? 38 with
  | none => have := size26; simp [hq] at this
  | some x =>
    have hs : x.size = 2 := by have := size26; simpa [hq] using this
    have hagg : (isAgg 38).run Try.prog w = .ok true w := by
      unfold isAgg
      rw [Sem.run_bind, run_underlying Try.underlying38 w]
      rfl
    have e4 : (DC e).toList.length = 2 := rfl
    rw [e4] at hl
    unfold ld26
    simp only [Instr.loadAt, Instr.sureAddr, Sem.run_bind, Sem.run_pure, Result.andThen]
    simp [loadVar, Sem.run_bind, hagg, sizeOf, typeInfo, hq, hs, hl]
theorem cells_DV (e : En) : (Value.agg (DC e)).cells = DC e := by simp [Value.cells]
attribute [local go_sem] cells_DV
/-- the place of the first entry with the dot, or -1 -/
def IxOf (L : List En) (x : En) (k : Int) : Prop := (k = -1 ∧ ∀ i, i < L.length → sameDot (L.getD i en0) x = false) ∨ ∃ i, i < L.length ∧ k = (i : Int) ∧ sameDot (L.getD i en0) x = true ∧ ∀ j, j < i → sameDot (L.getD j en0) x = false
theorem IxOf.unique {L : List En} {x : En} {k k' : Int} (h : IxOf L x k) (h' : IxOf L x k') : k = k' := by
  rcases h with ⟨rfl, a⟩ | ⟨i, h1, rfl, h2, h3⟩
  · rcases h' with ⟨rfl, _⟩ | ⟨i', g1, rfl, g2, g3⟩
    · rfl
    · rw [a i' g1] at g2; cases g2
  · rcases h' with ⟨rfl, a⟩ | ⟨i', g1, rfl, g2, g3⟩
    · rw [a i h1] at h2; cases h2
    · have n1 : ¬ i < i' := fun h => by rw [g3 i h] at h2; cases h2
      have n2 : ¬ i' < i := fun h => by rw [h3 i' h] at g2; cases g2
      have : i = i' := by omega
      rw [this]
/-- what Find answers of the place -/
def fdE (L : List En) (k : Int) : En := if k < 0 then en0 else L.getD k.toNat en0
def fdB (k : Int) : Bool := decide (0 ≤ k)
theorem resF {fn : Func} {p q : Tmp} {w : World} {g : Nat} {T : TypeId} {e : En} {b : Value} (h : fn.results = #[.cell p 40, .tmp q]) {tmps : Array Value} (hp : tmps.getD p undef = .pointer (some ⟨g, 0, none⟩)) (hq : tmps.getD q undef = b) (A : Box w g T e) :
    (results fn tmps).run Try.prog w = .ok (.tuple #[EV e, b]) w := by
  have hl := run_lv28 A.at
  simp only [results, h]
  rw [Array.getD_eq_getD_getElem?] at hp hq
  simp [hp, hq, asAddr, hl]
def GivesF (w w' : World) (y : Ending) (L : List En) (x : En) : Prop := ∃ k, y = .returned (.tuple #[EV (fdE L k), .bool (fdB k)]) ∧ IxOf L x k ∧ Below w.heap.size w w'
set_option maxRecDepth 100000 in
set_option maxHeartbeats 4000000 in
theorem refFind_any (ao : Option Addr) (n cap : Nat) (L : List En) (x : En) (w : World) (hS : ESrc w ao n cap L) :
    Calls Try.prog 18 #[.slice ao n cap, .agg (DC x)] w fun y w' => GivesF w w' y L x := by
  have hn := hS.2.2.2.2
  have HL : Hid (L.length = n) := hS.1
  have B1 := below_new w (.cells (DC x) 38)
  have HB2 : Hid (Below w.heap.size w ((w.alloc (.cells (DC x) 38)).alloc (.cells (EC en0) 40))) := B1.trans ((below_new _ _).mono B1.size)
  have HD : Hid (DotAt ((w.alloc (.cells (DC x) 38)).alloc (.cells (EC en0) 40)) w.heap.size x) := (dot_new w x).on (below_new _ _)
  have HX : Hid (Box ((w.alloc (.cells (DC x) 38)).alloc (.cells (EC en0) 40)) (w.heap.size + 1) 40 en0) := by have := box_new (w.alloc (.cells (DC x) 38)) 40 en0; rwa [World.size_alloc] at this
  have HS := hide (hS.below HB2.out)
  obtain ⟨w2, Hw2⟩ : ∃ w2, Hid ((w.alloc (.cells (DC x) 38)).alloc (.cells (EC en0) 40) = w2) := ⟨_, rfl⟩
  rw [Hw2.out] at HB2 HD HX HS
  clear hS B1
  go_enter Try.func18, Try.ntmps18
  go_wp2_with fail
  rw [Hw2.out]
  go_loopw [6] (fun i wr => ∃ k : Nat, k ≤ n ∧ i = .int .i64 k ∧ Hid ((∀ j, j < k → sameDot (L.getD j en0) x = false) ∧ Below w2.heap.size w2 wr)) (fun i _ => n - (intOf i).toNat)
  case atStart => exact ⟨0, Nat.zero_le _, rfl, fun i hi => by omega, Below.refl _ _⟩
  case round =>
    obtain ⟨k, hk, rfl, H⟩ := hrel
    rename World => w4
    by_cases hlt : k < n
    · obtain ⟨ad, rfl, A0⟩ := (HS.out.below H.out.2).at k hlt
      obtain ⟨e, He⟩ : ∃ e, Hid (L.getD k en0 = e) := ⟨_, rfl⟩
      rw [He.out] at A0
      have HA0 := hide A0
      have HD4 := hide (HD.out.on H.out.2)
      clear A0
      have l0 : ∀ d os, (ld26 (.pointer (some (ad.add (k * 4))))).run Try.prog (Sort.grow (redrawn w4 d) os) = .ok (.agg (DC e)) (Sort.grow (redrawn w4 d) os) := fun d os => run_ld26 (HA0.out.on (below_regrown w4 d os))
      have l1 : ∀ d os, (ld26 (.pointer (some ⟨w.heap.size, 0, none⟩))).run Try.prog (Sort.grow (redrawn w4 d) os) = .ok (.agg (DC x)) (Sort.grow (redrawn w4 d) os) := fun d os => run_ldD (HD4.out.on (below_regrown w4 d os))
      obtain ⟨q, hq⟩ : ∃ q, sameDot e x = q := ⟨_, rfl⟩
      cases q with
      | false =>
        have HQ := hide hq
        go_wp2_with fail
        refine wp_region_quiet_below (by kernel_rfl) (by kernel_rfl) ?_
        repeat (with_reducible (refine wpQuiet_step ?_); intro K hK; go_simp; (try rw [if_neg (by unfold undef; simp)]); first | (with_reducible (refine hK _ ?_); clear hK K) | (apply Exists.intro; refine ⟨fun _ => ?_, hK _ ?_⟩; (fail); clear hK K))
        with_reducible (refine wpQuiet_nil ?_)
        intro w5 hw'
        obtain ⟨⟨dq, osq⟩, hw''⟩ := hw'
        have b5 : Below w4.heap.size w4 w5 := by rw [hw'']; exact below_regrown w4 dq osq
        clear hw'' dq osq
        have HN : Hid ((∀ j, j < k + 1 → sameDot (L.getD j en0) x = false) ∧ Below w2.heap.size w2 w5) := ⟨fun j hj => by
          by_cases ej : j = k
          · rw [ej, He.out]; exact HQ.out
          · exact H.out.1 j (by omega), H.out.2.trans (b5.mono H.out.2.size)⟩
        clear b5 l0 l1
        go_wp2_with fail
        go_roundw
        case rel => exact ⟨k + 1, by omega, by go_num, HN⟩
        case measure => simp [intOf]; omega
      | true =>
        have HQ := hide hq
        go_wp2_with fail
        refine wp_region_quiet_below (by kernel_rfl) (by kernel_rfl) ?_
        repeat (with_reducible (refine wpQuiet_step ?_); intro K hK; go_simp; (try rw [if_neg (by unfold undef; simp)]); first | (with_reducible (refine hK _ ?_); clear hK K) | (apply Exists.intro; refine ⟨fun _ => ?_, hK _ ?_⟩; (fail); clear hK K))
        with_reducible (refine wpQuiet_nil ?_)
        intro w5 hw'
        obtain ⟨⟨dq, osq⟩, hw''⟩ := hw'
        have b5 : Below w4.heap.size w4 w5 := by rw [hw'']; exact below_regrown w4 dq osq
        clear hw'' dq osq
        have l5 := run_ld28 (HA0.out.on b5)
        have HX5 := hide ((HX.out.below H.out.2).below b5)
        have HB5 := hide (HB2.out.trans ((H.out.2.trans (b5.mono H.out.2.size)).mono HB2.out.size))
        have HE : Hid (fdE L (k : Int) = e) := by show _ = _; unfold fdE; rw [if_neg (by omega), Int.toNat_natCast, He.out]
        have HF : Hid (fdB (k : Int) = true) := by show _ = _; unfold fdB; simp
        have HK : Hid (IxOf L x (k : Int)) := Or.inr ⟨k, by rw [HL.out]; exact hlt, rfl, by rw [He.out]; exact HQ.out, H.out.1⟩
        have hst := run_st28 (e' := e) HX5.out
        have HX6 := hide (HX5.out.setRow (e' := e))
        have HB6 : Hid (Below w.heap.size w (w5.setRow (w.heap.size + 1) (EC e))) := below_setRow HB5.out (by omega)
        clear b5 l0 l1
        go_wp2_with fail
        refine bodyPost_ret (resF Try.results18 rfl rfl HX6.out) rfl ⟨(k : Int), by rw [HE.out, HF.out]; rfl, HK.out, HB6.out⟩
    · obtain rfl : k = n := by omega
      have HE : Hid (fdE L (-1) = en0) := by show _ = _; unfold fdE; rw [if_pos (by omega)]
      have HF : Hid (fdB (-1) = false) := by show _ = _; unfold fdB; simp
      have HK : Hid (IxOf L x (-1)) := Or.inl ⟨rfl, by rw [HL.out]; exact H.out.1⟩
      have HX4 := hide (HX.out.below H.out.2)
      have hst := run_st28 (e' := en0) HX4.out
      have HX5 := hide (HX4.out.setRow (e' := en0))
      have HB5 : Hid (Below w.heap.size w (w4.setRow (w.heap.size + 1) (EC en0))) := below_setRow (HB2.out.trans (H.out.2.mono HB2.out.size)) (by omega)
      go_wp2_with fail
      refine bodyPost_ret (resF Try.results18 rfl rfl HX5.out) rfl ⟨-1, by rw [HE.out, HF.out]; rfl, HK.out, HB5.out⟩
end Go.Proofs.Ytmhdhedjeaaciaa
