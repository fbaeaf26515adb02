/- The reference's one. -/
import Derived.Test.YtflinfmhmokfhaaUCt
import Derived.Test.YtflinfmhmokfhaaUSr
namespace Go.Proofs.Ytflinfmhmokfhaa
open Go.RowKit
attribute [local go_sem ↓] ldG_eq stG_eq
attribute [local go_sem] GC_size KC_size to_GC to_KC GC_s0 GC_s1 GC_s2
variable {w w' w2 wq : World} {g : Nat} {ao : Option Addr} {n c : Nat} {Z : List Int}

theorem res3G {m : Got} {fn : Func} {p u v : Tmp} (h : fn.results = #[.cell p 29, .tmp u, .tmp v]) {tmps : Array Value} {x y : Value} (hp : tmps.getD p undef = .pointer (some ⟨g, 0, none⟩)) (hu : tmps.getD u undef = x) (hv : tmps.getD v undef = y) (A : GBox w g m) :
    (results fn tmps).run Try.prog w = .ok (.tuple #[GV m, x, y]) w := by
  have hl := run_lvG A
  simp only [results, h]
  rw [Array.getD_eq_getD_getElem?] at hp hu hv
  simp [hp, hu, hv, asAddr, hl]
/-- one's variables -/
structure OB (w wq : World) (g5 : Nat) (k n : Int) : Prop where
  k : KBox wq g5 ⟨k, n⟩
  r : GBox wq (g5 + 1) ⟨0, false, ⟨#[]⟩⟩
  bel : Below w.heap.size w wq
  pos : g5 = w.heap.size
theorem ob_made {wa : World} {g5 : Nat} (k n : Int) (hwa : w.alloc (.cells (KC ⟨k, n⟩) 32) = wa) (hwb : wa.alloc (.cells (GC ⟨0, false, ⟨#[]⟩⟩) 29) = wq) (hg : w.heap.size = g5) (ha : wa.heap.size = g5 + 1) : OB w wq g5 k n := by
  have b1 := below_new w (.cells (KC ⟨k, n⟩) 32)
  have h1 : KBox (w.alloc (.cells (KC ⟨k, n⟩) 32)) w.heap.size ⟨k, n⟩ := KBox_new w _
  rw [hwa] at b1 h1
  have b2 := below_new wa (.cells (GC ⟨0, false, ⟨#[]⟩⟩) 29)
  have h2 : GBox (wa.alloc (.cells (GC ⟨0, false, ⟨#[]⟩⟩) 29)) wa.heap.size ⟨0, false, ⟨#[]⟩⟩ := GBox_new wa _
  rw [hwb] at b2 h2
  rw [hg] at h1
  rw [ha] at h2
  exact ⟨h1.below b2, h2, b1.trans (b2.mono b1.size), hg.symm⟩
theorem OB.st {g5 : Nat} {k n : Int} (h : OB w wq g5 k n) (m : Got) : (stG (.pointer (some ⟨g5 + 1, 0, none⟩)) (.agg (GC m))).run Try.prog wq = .ok () (wq.setRow (g5 + 1) (GC m)) ∧ GBox (wq.setRow (g5 + 1) (GC m)) (g5 + 1) m ∧ Below w.heap.size w (wq.setRow (g5 + 1) (GC m)) :=
  ⟨run_stG h.r, h.r.setRow, below_setRow h.bel (by have := h.pos; omega)⟩
/-- one's answer -/
def o3 (m : Got) (x e : Int) : Ending := .returned (.tuple #[.agg (GC m), .int .i64 x, .int .i64 e])
set_option maxRecDepth 100000 in
theorem one1_ok (ao : Option Addr) (n c : Nat) (Z : List Int) (a : Nat) (x : Int) (w : World) (S : Src w ao n c Z) (_ : n ≤ c) (ha : a ≤ n) (hn : n ≤ 140737488355328) (h : nmE (Z.drop a) x = 0) :
    Calls Try.prog 39 #[.slice ao n c, .int .i64 (a : Int), .agg (KC ⟨1, x⟩)] w fun r w' => r = o3 ⟨(nmV (Z.drop a) : Int), false, ⟨#[]⟩⟩ ((a + nmK (Z.drop a) : Nat) : Int) 0 ∧ Below w.heap.size w w' := by
  obtain ⟨g5, hg5⟩ : ∃ g5, w.heap.size = g5 := ⟨_, rfl⟩
  obtain ⟨wa, hwa⟩ : ∃ wa, w.alloc (.cells (KC ⟨1, x⟩) 32) = wa := ⟨_, rfl⟩
  obtain ⟨wq, hwq⟩ : ∃ wq, wa.alloc (.cells (GC ⟨0, false, ⟨#[]⟩⟩) 29) = wq := ⟨_, rfl⟩
  have hsa : wa.heap.size = g5 + 1 := by rw [← hwa, World.size_alloc, hg5]
  have hA := ob_made 1 x hwa hwq hg5 hsa
  have x0 := hA.k.c0
  have x1 := hA.k.c1
  simp only at x0 x1
  have SQ := S.below hA.bel
  have hC := upTo_any ao n c Z a x wq SQ ha hn
  unfold upA at hC
  rw [if_pos h] at hC
  unfold p3 at hC
  simp only at hC
  obtain ⟨v, hv⟩ : ∃ v, nmV (Z.drop a) = v := ⟨_, rfl⟩
  obtain ⟨nx, hnx⟩ : ∃ nx, a + nmK (Z.drop a) = nx := ⟨_, rfl⟩
  rw [hv, hnx] at hC ⊢
  have HC := hide hC
  obtain ⟨hst, hbx, hbl⟩ := hA.st ⟨(v : Int), false, ⟨#[]⟩⟩
  have HX := hide hbx
  have HB := hide hbl
  clear hbx hbl
  clear hA SQ S hC hv hnx h
  go_enter Try.func39, Try.ntmps39
  go_wp2_with fail
  refine HC.out.mono ?_
  rintro r w2 ⟨rfl, rfl⟩
  go_wp2_with fail
  exact bodyPost_ret (v := .tuple #[.agg (GC ⟨(v : Int), false, ⟨#[]⟩⟩), .int .i64 (nx : Int), .int .i64 0]) (res3G Try.results39 rfl rfl rfl HX.out) rfl ⟨rfl, (by first | exact HB.out | (have hh := HB.out; rw [hg5] at hh; exact hh))⟩
set_option maxRecDepth 100000 in
theorem one1_bad (ao : Option Addr) (n c : Nat) (Z : List Int) (a : Nat) (x : Int) (w : World) (S : Src w ao n c Z) (_ : n ≤ c) (ha : a ≤ n) (hn : n ≤ 140737488355328) {e : Int} (h : nmE (Z.drop a) x = e) (he : e ≠ 0) :
    Calls Try.prog 39 #[.slice ao n c, .int .i64 (a : Int), .agg (KC ⟨1, x⟩)] w fun r w' => r = o3 ⟨0, false, ⟨#[]⟩⟩ 0 e ∧ Below w.heap.size w w' := by
  obtain ⟨g5, hg5⟩ : ∃ g5, w.heap.size = g5 := ⟨_, rfl⟩
  obtain ⟨wa, hwa⟩ : ∃ wa, w.alloc (.cells (KC ⟨1, x⟩) 32) = wa := ⟨_, rfl⟩
  obtain ⟨wq, hwq⟩ : ∃ wq, wa.alloc (.cells (GC ⟨0, false, ⟨#[]⟩⟩) 29) = wq := ⟨_, rfl⟩
  have hsa : wa.heap.size = g5 + 1 := by rw [← hwa, World.size_alloc, hg5]
  have hA := ob_made 1 x hwa hwq hg5 hsa
  have x0 := hA.k.c0
  have x1 := hA.k.c1
  simp only at x0 x1
  have SQ := S.below hA.bel
  have hC := upTo_any ao n c Z a x wq SQ ha hn
  unfold upA at hC
  rw [h, if_neg he] at hC
  unfold p3 at hC
  simp only at hC
  have HC := hide hC
  obtain ⟨hst, hbx, hbl⟩ := hA.st ⟨0, false, ⟨#[]⟩⟩
  have HX := hide hbx
  have HB := hide hbl
  clear hbx hbl
  clear hA SQ S hC h he
  go_enter Try.func39, Try.ntmps39
  go_wp2_with fail
  refine HC.out.mono ?_
  rintro r w2 ⟨rfl, rfl⟩
  go_wp2_with fail
  exact bodyPost_ret (v := .tuple #[.agg (GC ⟨0, false, ⟨#[]⟩⟩), .int .i64 0, .int .i64 e]) (res3G Try.results39 rfl rfl rfl HX.out) rfl ⟨rfl, (by first | exact HB.out | (have hh := HB.out; rw [hg5] at hh; exact hh))⟩
set_option maxRecDepth 100000 in
theorem one2_ok (ao : Option Addr) (n c : Nat) (Z : List Int) (a : Nat) (x : Int) (w : World) (S : Src w ao n c Z) (_ : n ≤ c) (ha : a ≤ n) (hn : n ≤ 140737488355328) (h : flE (Z.drop a) = 0) :
    Calls Try.prog 39 #[.slice ao n c, .int .i64 (a : Int), .agg (KC ⟨2, x⟩)] w fun r w' => r = o3 ⟨0, flV (Z.drop a), ⟨#[]⟩⟩ ((a + 1 : Nat) : Int) 0 ∧ Below w.heap.size w w' := by
  obtain ⟨g5, hg5⟩ : ∃ g5, w.heap.size = g5 := ⟨_, rfl⟩
  obtain ⟨wa, hwa⟩ : ∃ wa, w.alloc (.cells (KC ⟨2, x⟩) 32) = wa := ⟨_, rfl⟩
  obtain ⟨wq, hwq⟩ : ∃ wq, wa.alloc (.cells (GC ⟨0, false, ⟨#[]⟩⟩) 29) = wq := ⟨_, rfl⟩
  have hsa : wa.heap.size = g5 + 1 := by rw [← hwa, World.size_alloc, hg5]
  have hA := ob_made 2 x hwa hwq hg5 hsa
  have x0 := hA.k.c0
  have x1 := hA.k.c1
  simp only at x0 x1
  have SQ := S.below hA.bel
  have hl : a < n ∧ ¬ 1 < Z.getD a 0 := by
    have h2 := S.1
    unfold flE at h
    rw [List.length_drop, drop_getD, Nat.add_zero] at h
    split at h
    · cases h
    · split at h
      · cases h
      · exact ⟨by omega, by assumption⟩
  obtain ⟨hl, hz⟩ := hl
  obtain ⟨ad, rfl, hc⟩ := cell_at SQ a hl
  have hfv : flV (Z.drop a) = (Z.getD a 0 == 1) := by unfold flV; rw [drop_getD, Nat.add_zero]
  obtain ⟨z, hzz⟩ : ∃ z, Z.getD a 0 = z := ⟨_, rfl⟩
  rw [hfv]
  rw [hzz] at hc hz ⊢
  obtain ⟨bv, hbv⟩ : ∃ bv, (z == 1) = bv := ⟨_, rfl⟩
  rw [hbv]
  have hne : ((a : Int) == (n : Int)) = false := by simp; omega
  obtain ⟨hst, hbx, hbl⟩ := hA.st ⟨0, bv, ⟨#[]⟩⟩
  have HX := hide hbx
  have HB := hide hbl
  clear hbx hbl
  clear hA SQ S hzz h hfv
  go_enter Try.func39, Try.ntmps39
  go_wp2_with fail
  exact bodyPost_ret (v := .tuple #[.agg (GC ⟨0, bv, ⟨#[]⟩⟩), .int .i64 ((a : Int) + 1), .int .i64 0]) (res3G Try.results39 rfl rfl rfl HX.out) rfl ⟨rfl, (by first | exact HB.out | (have hh := HB.out; rw [hg5] at hh; exact hh))⟩
set_option maxRecDepth 100000 in
theorem one2_bad (ao : Option Addr) (n c : Nat) (Z : List Int) (a : Nat) (x : Int) (w : World) (S : Src w ao n c Z) (hcap : n ≤ c) (ha : a ≤ n) (hn : n ≤ 140737488355328) {e : Int} (h : flE (Z.drop a) = e) (he : e ≠ 0) :
    Calls Try.prog 39 #[.slice ao n c, .int .i64 (a : Int), .agg (KC ⟨2, x⟩)] w fun r w' => r = o3 ⟨0, false, ⟨#[]⟩⟩ 0 e ∧ Below w.heap.size w w' := by
  obtain ⟨g5, hg5⟩ : ∃ g5, w.heap.size = g5 := ⟨_, rfl⟩
  obtain ⟨wa, hwa⟩ : ∃ wa, w.alloc (.cells (KC ⟨2, x⟩) 32) = wa := ⟨_, rfl⟩
  obtain ⟨wq, hwq⟩ : ∃ wq, wa.alloc (.cells (GC ⟨0, false, ⟨#[]⟩⟩) 29) = wq := ⟨_, rfl⟩
  have hsa : wa.heap.size = g5 + 1 := by rw [← hwa, World.size_alloc, hg5]
  have hA := ob_made 2 x hwa hwq hg5 hsa
  have x0 := hA.k.c0
  have x1 := hA.k.c1
  simp only at x0 x1
  have SQ := S.below hA.bel
  have h2 := S.1
  unfold flE at h
  rw [List.length_drop, drop_getD, Nat.add_zero] at h
  obtain ⟨hst, hbx, hbl⟩ := hA.st ⟨0, false, ⟨#[]⟩⟩
  have HX := hide hbx
  have HB := hide hbl
  clear hbx hbl
  by_cases h0 : Z.length - a = 0
  · rw [if_pos h0] at h
    subst h
    obtain rfl : a = n := by omega
    clear hA SQ S h2 h0 he
    go_enter Try.func39, Try.ntmps39
    go_wp2_with fail
    exact bodyPost_ret (v := .tuple #[.agg (GC ⟨0, false, ⟨#[]⟩⟩), .int .i64 0, .int .i64 50]) (res3G Try.results39 rfl rfl rfl HX.out) rfl ⟨rfl, (by first | exact HB.out | (have hh := HB.out; rw [hg5] at hh; exact hh))⟩
  · rw [if_neg h0] at h
    have hz : 1 < Z.getD a 0 := by
      by_cases hz : 1 < Z.getD a 0
      · exact hz
      · rw [if_neg hz] at h; exact absurd h.symm he
    rw [if_pos hz] at h
    subst h
    obtain ⟨ad, rfl, hc⟩ := cell_at SQ a (by omega)
    obtain ⟨z, hzz⟩ : ∃ z, Z.getD a 0 = z := ⟨_, rfl⟩
    rw [hzz] at hc hz
    have hne : ((a : Int) == (n : Int)) = false := by simp; omega
    have hlt : a < n := by omega
    clear hA SQ S h2 h0 he hzz
    go_enter Try.func39, Try.ntmps39
    go_wp2_with fail
    exact bodyPost_ret (v := .tuple #[.agg (GC ⟨0, false, ⟨#[]⟩⟩), .int .i64 0, .int .i64 51]) (res3G Try.results39 rfl rfl rfl HX.out) rfl ⟨rfl, (by first | exact HB.out | (have hh := HB.out; rw [hg5] at hh; exact hh))⟩
set_option maxRecDepth 100000 in
theorem one3_ok (ao : Option Addr) (n c : Nat) (Z : List Int) (a : Nat) (x : Int) (w : World) (S : Src w ao n c Z) (hcap : n ≤ c) (ha : a ≤ n) (hn : n ≤ 140737488355328) (h : pcE (Z.drop a) x = 0) :
    Calls Try.prog 39 #[.slice ao n c, .int .i64 (a : Int), .agg (KC ⟨3, x⟩)] w fun r w' => r = o3 ⟨0, false, strOfNums (((Z.drop a).drop (nmK (Z.drop a))).take (nmV (Z.drop a)))⟩ ((a + (nmK (Z.drop a) + nmV (Z.drop a)) : Nat) : Int) 0 ∧ Below w.heap.size w w' := by
  obtain ⟨g5, hg5⟩ : ∃ g5, w.heap.size = g5 := ⟨_, rfl⟩
  obtain ⟨wa, hwa⟩ : ∃ wa, w.alloc (.cells (KC ⟨3, x⟩) 32) = wa := ⟨_, rfl⟩
  obtain ⟨wq, hwq⟩ : ∃ wq, wa.alloc (.cells (GC ⟨0, false, ⟨#[]⟩⟩) 29) = wq := ⟨_, rfl⟩
  have hsa : wa.heap.size = g5 + 1 := by rw [← hwa, World.size_alloc, hg5]
  have hA := ob_made 3 x hwa hwq hg5 hsa
  have x0 := hA.k.c0
  have x1 := hA.k.c1
  simp only at x0 x1
  have SQ := S.below hA.bel
  have hC := refPiece_any ao n c Z a x wq SQ hcap ha hn
  unfold pcY pcN at hC
  rw [if_pos h, if_pos h, h] at hC
  obtain ⟨v, hv⟩ : ∃ v, strOfNums (((Z.drop a).drop (nmK (Z.drop a))).take (nmV (Z.drop a))) = v := ⟨_, rfl⟩
  obtain ⟨nx, hnx⟩ : ∃ nx, a + (nmK (Z.drop a) + nmV (Z.drop a)) = nx := ⟨_, rfl⟩
  rw [hv, hnx] at hC ⊢
  have HC := hide hC
  obtain ⟨hst, hbx, hbl⟩ := hA.st ⟨0, false, v⟩
  have HX := hide hbx
  have HB := hide hbl
  clear hbx hbl
  clear hA SQ S hC hv hnx h
  go_enter Try.func39, Try.ntmps39
  go_wp2_with fail
  refine HC.out.mono ?_
  rintro r w2 ⟨rfl, rfl⟩
  go_wp2_with fail
  exact bodyPost_ret (v := .tuple #[.agg (GC ⟨0, false, v⟩), .int .i64 (nx : Int), .int .i64 0]) (res3G Try.results39 rfl rfl rfl HX.out) rfl ⟨rfl, (by first | exact HB.out | (have hh := HB.out; rw [hg5] at hh; exact hh))⟩
set_option maxRecDepth 100000 in
theorem one3_bad (ao : Option Addr) (n c : Nat) (Z : List Int) (a : Nat) (x : Int) (w : World) (S : Src w ao n c Z) (hcap : n ≤ c) (ha : a ≤ n) (hn : n ≤ 140737488355328) {e : Int} (h : pcE (Z.drop a) x = e) (he : e ≠ 0) :
    Calls Try.prog 39 #[.slice ao n c, .int .i64 (a : Int), .agg (KC ⟨3, x⟩)] w fun r w' => r = o3 ⟨0, false, ⟨#[]⟩⟩ 0 e ∧ Below w.heap.size w w' := by
  obtain ⟨g5, hg5⟩ : ∃ g5, w.heap.size = g5 := ⟨_, rfl⟩
  obtain ⟨wa, hwa⟩ : ∃ wa, w.alloc (.cells (KC ⟨3, x⟩) 32) = wa := ⟨_, rfl⟩
  obtain ⟨wq, hwq⟩ : ∃ wq, wa.alloc (.cells (GC ⟨0, false, ⟨#[]⟩⟩) 29) = wq := ⟨_, rfl⟩
  have hsa : wa.heap.size = g5 + 1 := by rw [← hwa, World.size_alloc, hg5]
  have hA := ob_made 3 x hwa hwq hg5 hsa
  have x0 := hA.k.c0
  have x1 := hA.k.c1
  simp only at x0 x1
  have SQ := S.below hA.bel
  have hC := refPiece_any ao n c Z a x wq SQ hcap ha hn
  unfold pcY pcN at hC
  rw [h, if_neg he, if_neg he, show strOfNums [] = ⟨#[]⟩ from rfl] at hC
  have HC := hide hC
  obtain ⟨hst, hbx, hbl⟩ := hA.st ⟨0, false, ⟨#[]⟩⟩
  have HX := hide hbx
  have HB := hide hbl
  clear hbx hbl
  clear hA SQ S hC h he
  go_enter Try.func39, Try.ntmps39
  go_wp2_with fail
  refine HC.out.mono ?_
  rintro r w2 ⟨rfl, rfl⟩
  go_wp2_with fail
  exact bodyPost_ret (v := .tuple #[.agg (GC ⟨0, false, ⟨#[]⟩⟩), .int .i64 0, .int .i64 e]) (res3G Try.results39 rfl rfl rfl HX.out) rfl ⟨rfl, (by first | exact HB.out | (have hh := HB.out; rw [hg5] at hh; exact hh))⟩
set_option maxRecDepth 100000 in
theorem one4_ok (ao : Option Addr) (n c : Nat) (Z : List Int) (a : Nat) (x : Int) (w : World) (S : Src w ao n c Z) (hcap : n ≤ c) (ha : a ≤ n) (hn : n ≤ 140737488355328) (h : pcE (Z.drop a) x = 0) :
    Calls Try.prog 39 #[.slice ao n c, .int .i64 (a : Int), .agg (KC ⟨4, x⟩)] w fun r w' => r = o3 ⟨0, false, strOfNums (((Z.drop a).drop (nmK (Z.drop a))).take (nmV (Z.drop a)))⟩ ((a + (nmK (Z.drop a) + nmV (Z.drop a)) : Nat) : Int) 0 ∧ Below w.heap.size w w' := by
  obtain ⟨g5, hg5⟩ : ∃ g5, w.heap.size = g5 := ⟨_, rfl⟩
  obtain ⟨wa, hwa⟩ : ∃ wa, w.alloc (.cells (KC ⟨4, x⟩) 32) = wa := ⟨_, rfl⟩
  obtain ⟨wq, hwq⟩ : ∃ wq, wa.alloc (.cells (GC ⟨0, false, ⟨#[]⟩⟩) 29) = wq := ⟨_, rfl⟩
  have hsa : wa.heap.size = g5 + 1 := by rw [← hwa, World.size_alloc, hg5]
  have hA := ob_made 4 x hwa hwq hg5 hsa
  have x0 := hA.k.c0
  have x1 := hA.k.c1
  simp only at x0 x1
  have SQ := S.below hA.bel
  have hC := refPiece_any ao n c Z a x wq SQ hcap ha hn
  unfold pcY pcN at hC
  rw [if_pos h, if_pos h, h] at hC
  obtain ⟨v, hv⟩ : ∃ v, strOfNums (((Z.drop a).drop (nmK (Z.drop a))).take (nmV (Z.drop a))) = v := ⟨_, rfl⟩
  obtain ⟨nx, hnx⟩ : ∃ nx, a + (nmK (Z.drop a) + nmV (Z.drop a)) = nx := ⟨_, rfl⟩
  rw [hv, hnx] at hC ⊢
  have HC := hide hC
  obtain ⟨hst, hbx, hbl⟩ := hA.st ⟨0, false, v⟩
  have HX := hide hbx
  have HB := hide hbl
  clear hbx hbl
  clear hA SQ S hC hv hnx h
  go_enter Try.func39, Try.ntmps39
  go_wp2_with fail
  refine HC.out.mono ?_
  rintro r w2 ⟨rfl, rfl⟩
  go_wp2_with fail
  exact bodyPost_ret (v := .tuple #[.agg (GC ⟨0, false, v⟩), .int .i64 (nx : Int), .int .i64 0]) (res3G Try.results39 rfl rfl rfl HX.out) rfl ⟨rfl, (by first | exact HB.out | (have hh := HB.out; rw [hg5] at hh; exact hh))⟩
set_option maxRecDepth 100000 in
theorem one4_bad (ao : Option Addr) (n c : Nat) (Z : List Int) (a : Nat) (x : Int) (w : World) (S : Src w ao n c Z) (hcap : n ≤ c) (ha : a ≤ n) (hn : n ≤ 140737488355328) {e : Int} (h : pcE (Z.drop a) x = e) (he : e ≠ 0) :
    Calls Try.prog 39 #[.slice ao n c, .int .i64 (a : Int), .agg (KC ⟨4, x⟩)] w fun r w' => r = o3 ⟨0, false, ⟨#[]⟩⟩ 0 e ∧ Below w.heap.size w w' := by
  obtain ⟨g5, hg5⟩ : ∃ g5, w.heap.size = g5 := ⟨_, rfl⟩
  obtain ⟨wa, hwa⟩ : ∃ wa, w.alloc (.cells (KC ⟨4, x⟩) 32) = wa := ⟨_, rfl⟩
  obtain ⟨wq, hwq⟩ : ∃ wq, wa.alloc (.cells (GC ⟨0, false, ⟨#[]⟩⟩) 29) = wq := ⟨_, rfl⟩
  have hsa : wa.heap.size = g5 + 1 := by rw [← hwa, World.size_alloc, hg5]
  have hA := ob_made 4 x hwa hwq hg5 hsa
  have x0 := hA.k.c0
  have x1 := hA.k.c1
  simp only at x0 x1
  have SQ := S.below hA.bel
  have hC := refPiece_any ao n c Z a x wq SQ hcap ha hn
  unfold pcY pcN at hC
  rw [h, if_neg he, if_neg he, show strOfNums [] = ⟨#[]⟩ from rfl] at hC
  have HC := hide hC
  obtain ⟨hst, hbx, hbl⟩ := hA.st ⟨0, false, ⟨#[]⟩⟩
  have HX := hide hbx
  have HB := hide hbl
  clear hbx hbl
  clear hA SQ S hC h he
  go_enter Try.func39, Try.ntmps39
  go_wp2_with fail
  refine HC.out.mono ?_
  rintro r w2 ⟨rfl, rfl⟩
  go_wp2_with fail
  exact bodyPost_ret (v := .tuple #[.agg (GC ⟨0, false, ⟨#[]⟩⟩), .int .i64 0, .int .i64 e]) (res3G Try.results39 rfl rfl rfl HX.out) rfl ⟨rfl, (by first | exact HB.out | (have hh := HB.out; rw [hg5] at hh; exact hh))⟩
set_option maxRecDepth 100000 in
theorem one6 (ao : Option Addr) (n c : Nat) (Z : List Int) (a : Nat) (x : Int) (w : World) (S : Src w ao n c Z) (_ : n ≤ c) (ha : a ≤ n) (hn : n ≤ 140737488355328) :
    Calls Try.prog 39 #[.slice ao n c, .int .i64 (a : Int), .agg (KC ⟨6, x⟩)] w fun r w' => r = o3 ⟨(n : Int) - (a : Int), false, ⟨#[]⟩⟩ (a : Int) 0 ∧ Below w.heap.size w w' := by
  obtain ⟨g5, hg5⟩ : ∃ g5, w.heap.size = g5 := ⟨_, rfl⟩
  obtain ⟨wa, hwa⟩ : ∃ wa, w.alloc (.cells (KC ⟨6, x⟩) 32) = wa := ⟨_, rfl⟩
  obtain ⟨wq, hwq⟩ : ∃ wq, wa.alloc (.cells (GC ⟨0, false, ⟨#[]⟩⟩) 29) = wq := ⟨_, rfl⟩
  have hsa : wa.heap.size = g5 + 1 := by rw [← hwa, World.size_alloc, hg5]
  have hA := ob_made 6 x hwa hwq hg5 hsa
  have x0 := hA.k.c0
  have x1 := hA.k.c1
  simp only at x0 x1
  have SQ := S.below hA.bel
  obtain ⟨hst, hbx, hbl⟩ := hA.st ⟨(n : Int) - (a : Int), false, ⟨#[]⟩⟩
  have HX := hide hbx
  have HB := hide hbl
  clear hbx hbl
  have hw : wrap64 ((n : Int) - (a : Int)) = (n : Int) - (a : Int) := w64 (by omega) (by omega)
  clear hA SQ S
  go_enter Try.func39, Try.ntmps39
  go_wp2_with fail
  exact bodyPost_ret (v := .tuple #[.agg (GC ⟨(n : Int) - (a : Int), false, ⟨#[]⟩⟩), .int .i64 (a : Int), .int .i64 0]) (res3G Try.results39 rfl rfl rfl HX.out) rfl ⟨rfl, (by first | exact HB.out | (have hh := HB.out; rw [hg5] at hh; exact hh))⟩
set_option maxRecDepth 100000 in
theorem one7a (ao : Option Addr) (n c : Nat) (Z : List Int) (a : Nat) (x : Int) (w : World) (S : Src w ao n c Z) (_ : n ≤ c) (_ : a ≤ n) (_ : n ≤ 140737488355328) (h : x = 0) :
    Calls Try.prog 39 #[.slice ao n c, .int .i64 (a : Int), .agg (KC ⟨7, x⟩)] w fun r w' => r = o3 ⟨0, false, ⟨#[]⟩⟩ 0 8 ∧ Below w.heap.size w w' := by
  obtain ⟨g5, hg5⟩ : ∃ g5, w.heap.size = g5 := ⟨_, rfl⟩
  obtain ⟨wa, hwa⟩ : ∃ wa, w.alloc (.cells (KC ⟨7, x⟩) 32) = wa := ⟨_, rfl⟩
  obtain ⟨wq, hwq⟩ : ∃ wq, wa.alloc (.cells (GC ⟨0, false, ⟨#[]⟩⟩) 29) = wq := ⟨_, rfl⟩
  have hsa : wa.heap.size = g5 + 1 := by rw [← hwa, World.size_alloc, hg5]
  have hA := ob_made 7 x hwa hwq hg5 hsa
  have x0 := hA.k.c0
  have x1 := hA.k.c1
  simp only at x0 x1
  have SQ := S.below hA.bel
  obtain ⟨hst, hbx, hbl⟩ := hA.st ⟨0, false, ⟨#[]⟩⟩
  have HX := hide hbx
  have HB := hide hbl
  clear hbx hbl
  subst h
  clear hA SQ S
  go_enter Try.func39, Try.ntmps39
  go_wp2_with fail
  exact bodyPost_ret (v := .tuple #[.agg (GC ⟨0, false, ⟨#[]⟩⟩), .int .i64 0, .int .i64 8]) (res3G Try.results39 rfl rfl rfl HX.out) rfl ⟨rfl, (by first | exact HB.out | (have hh := HB.out; rw [hg5] at hh; exact hh))⟩
set_option maxRecDepth 100000 in
theorem one7b (ao : Option Addr) (n c : Nat) (Z : List Int) (a : Nat) (x : Int) (w : World) (S : Src w ao n c Z) (_ : n ≤ c) (_ : a ≤ n) (_ : n ≤ 140737488355328) (h : ¬ x = 0) :
    Calls Try.prog 39 #[.slice ao n c, .int .i64 (a : Int), .agg (KC ⟨7, x⟩)] w fun r w' => r = o3 ⟨0, false, ⟨#[]⟩⟩ 0 x ∧ Below w.heap.size w w' := by
  obtain ⟨g5, hg5⟩ : ∃ g5, w.heap.size = g5 := ⟨_, rfl⟩
  obtain ⟨wa, hwa⟩ : ∃ wa, w.alloc (.cells (KC ⟨7, x⟩) 32) = wa := ⟨_, rfl⟩
  obtain ⟨wq, hwq⟩ : ∃ wq, wa.alloc (.cells (GC ⟨0, false, ⟨#[]⟩⟩) 29) = wq := ⟨_, rfl⟩
  have hsa : wa.heap.size = g5 + 1 := by rw [← hwa, World.size_alloc, hg5]
  have hA := ob_made 7 x hwa hwq hg5 hsa
  have x0 := hA.k.c0
  have x1 := hA.k.c1
  simp only at x0 x1
  have SQ := S.below hA.bel
  have hxb : (x == 0) = false := by simpa using h
  obtain ⟨hst, hbx, hbl⟩ := (show OB w wq.drew g5 7 x from ⟨hA.k, hA.r, hA.bel.trans ((below_drew1 wq).mono hA.bel.size), hA.pos⟩).st ⟨0, false, ⟨#[]⟩⟩
  have HX := hide hbx
  have HB := hide hbl
  have HK : Hid (wq.drew.cell? ⟨g5, 1, none⟩ = some (.int .i64 x) ∧ (wq.drew.setRow (g5 + 1) (GC ⟨0, false, ⟨#[]⟩⟩)).cell? ⟨g5, 1, none⟩ = some (.int .i64 x)) := by
    refine ⟨x1, ?_⟩
    have h1 : KBox (wq.drew.setRow (g5 + 1) (GC ⟨0, false, ⟨#[]⟩⟩)) g5 ⟨7, x⟩ := (setRow_other _ _ _ _ (by omega)).trans hA.k
    exact h1.c1
  clear hA SQ S h hbx hbl
  go_enter Try.func39, Try.ntmps39
  go_wp2_with fail
  refine wp_region_held_drew (S := fun W => W.cell? ⟨g5, 1, none⟩ = some (.int .i64 x)) (by kernel_rfl) (HK.out.1) (fun hHeld => ?_)
  refine wpAnyH_take (i := 0) (oi := { dst := some 116, op := Op.build 29 #[], type := 29, pos := "ref.go:184", after := #[], guard := none }) (v := ?_) rfl (by kernel_rfl) (by kernel_rfl) (by kernel_rfl) (fun _ _ _ h => h) (Or.inl ⟨by rfl, ?_⟩) (by assumption) ?_
  rotate_left
  · (intro w hSw; (try dsimp only at hSw); go_simp); first | done | with_reducible rfl
  simp only [Act.put, List.setIfInBounds_toArray, List.set_cons_zero, List.set_cons_succ]
  refine wpAnyH_take (i := 1) (oi := { dst := some 117, op := Op.fieldAddr 32 (Operand.tmp 5) 1, type := 0, pos := "ref.go:184", after := #[{ on := 4, ground := Ground.gcOnly Departure.lateStores }], guard := none }) (v := ?_) rfl (by kernel_rfl) (by kernel_rfl) (by kernel_rfl) (fun _ _ _ h => h) (Or.inl ⟨by rfl, ?_⟩) (by assumption) ?_
  rotate_left
  · (intro w hSw; (try dsimp only at hSw); go_simp); first | done | with_reducible rfl
  simp only [Act.put, List.setIfInBounds_toArray, List.set_cons_zero, List.set_cons_succ]
  refine wpAnyH_take (i := 2) (oi := { dst := some 118, op := Op.load 3 (Operand.tmp 117), type := 3, pos := "ref.go:184", after := #[{ on := 1, ground := Ground.data }, { on := 4, ground := Ground.gcOnly Departure.lateStores }], guard := none }) (v := ?_) rfl (by kernel_rfl) (by kernel_rfl) (by kernel_rfl) (fun _ _ _ h => h) (Or.inl ⟨by rfl, ?_⟩) (by assumption) ?_
  rotate_left
  · (intro w hSw; (try dsimp only at hSw); have h1 := hSw; go_simp); first | done | with_reducible rfl
  simp only [Act.put, List.setIfInBounds_toArray, List.set_cons_zero, List.set_cons_succ]
  refine wpAnyH_ready (rs := [3]) (by kernel_rfl) (by simp) ?_
  refine AllReadyH.cons rfl (fun K hK => ?_) ?_
  rotate_left
  · exact AllReadyH.nil
  go_simp
  refine hK.out _ _ HK.out.2 (fun hHeld => ?_)
  clear hK K
  refine wpAnyH_take (i := 4) (oi := { dst := some 7, op := Op.assign (Operand.const (Value.int IntKind.i64 0)), type := 3, pos := "ref.go:184", after := #[{ on := 3, ground := Ground.chain }, { on := 0, ground := Ground.phase }, { on := 1, ground := Ground.textOnly Departure.lateStores }, { on := 2, ground := Ground.textOnly Departure.lateStores }, { on := 3, ground := Ground.phase }], guard := none }) (v := ?_) rfl (by kernel_rfl) (by kernel_rfl) (by kernel_rfl) (fun _ _ _ h => h) (Or.inl ⟨by rfl, ?_⟩) (by assumption) ?_
  rotate_left
  · (intro w hSw; (try dsimp only at hSw); go_simp); first | done | with_reducible rfl
  simp only [Act.put, List.setIfInBounds_toArray, List.set_cons_zero, List.set_cons_succ]
  refine wpAnyH_take (i := 5) (oi := { dst := some 8, op := Op.assign (Operand.tmp 118), type := 3, pos := "ref.go:184", after := #[{ on := 2, ground := Ground.data }, { on := 4, ground := Ground.chain }, { on := 0, ground := Ground.phase }, { on := 1, ground := Ground.phase }, { on := 2, ground := Ground.phase }, { on := 3, ground := Ground.phase }, { on := 4, ground := Ground.phase }], guard := none }) (v := ?_) rfl (by kernel_rfl) (by kernel_rfl) (by kernel_rfl) (fun _ _ _ h => h) (Or.inl ⟨by rfl, ?_⟩) (by assumption) ?_
  rotate_left
  · (intro w hSw; (try dsimp only at hSw); go_simp); first | done | with_reducible rfl
  simp only [Act.put, List.setIfInBounds_toArray, List.set_cons_zero, List.set_cons_succ]
  refine wpAnyH_done (by kernel_rfl) ?_ _
  clear hHeld
  go_wp2_with fail
  exact bodyPost_ret (v := .tuple #[.agg (GC ⟨0, false, ⟨#[]⟩⟩), .int .i64 0, .int .i64 x]) (res3G Try.results39 rfl rfl rfl HX.out) rfl ⟨rfl, (by first | exact HB.out | (have hh := HB.out; rw [hg5] at hh; exact hh))⟩
set_option maxRecDepth 100000 in
theorem one8 (ao : Option Addr) (n c : Nat) (Z : List Int) (a : Nat) (x : Int) (w : World) (S : Src w ao n c Z) (_ : n ≤ c) (_ : a ≤ n) (_ : n ≤ 140737488355328) :
    Calls Try.prog 39 #[.slice ao n c, .int .i64 (a : Int), .agg (KC ⟨8, x⟩)] w fun r w' => r = o3 ⟨0, false, ⟨#[]⟩⟩ 0 8 ∧ Below w.heap.size w w' := by
  obtain ⟨g5, hg5⟩ : ∃ g5, w.heap.size = g5 := ⟨_, rfl⟩
  obtain ⟨wa, hwa⟩ : ∃ wa, w.alloc (.cells (KC ⟨8, x⟩) 32) = wa := ⟨_, rfl⟩
  obtain ⟨wq, hwq⟩ : ∃ wq, wa.alloc (.cells (GC ⟨0, false, ⟨#[]⟩⟩) 29) = wq := ⟨_, rfl⟩
  have hsa : wa.heap.size = g5 + 1 := by rw [← hwa, World.size_alloc, hg5]
  have hA := ob_made 8 x hwa hwq hg5 hsa
  have x0 := hA.k.c0
  have x1 := hA.k.c1
  simp only at x0 x1
  have SQ := S.below hA.bel
  obtain ⟨hst, hbx, hbl⟩ := hA.st ⟨0, false, ⟨#[]⟩⟩
  have HX := hide hbx
  have HB := hide hbl
  clear hbx hbl
  clear hA SQ S
  go_enter Try.func39, Try.ntmps39
  go_wp2_with fail
  exact bodyPost_ret (v := .tuple #[.agg (GC ⟨0, false, ⟨#[]⟩⟩), .int .i64 0, .int .i64 8]) (res3G Try.results39 rfl rfl rfl HX.out) rfl ⟨rfl, (by first | exact HB.out | (have hh := HB.out; rw [hg5] at hh; exact hh))⟩
set_option maxRecDepth 100000 in
theorem oneN (ao : Option Addr) (n c : Nat) (Z : List Int) (a : Nat) (k : Int) (x : Int) (w : World) (S : Src w ao n c Z) (_ : n ≤ c) (_ : a ≤ n) (_ : n ≤ 140737488355328) (hk : ¬ k = 1 ∧ ¬ k = 2 ∧ ¬ k = 3 ∧ ¬ k = 4 ∧ ¬ k = 5 ∧ ¬ k = 6 ∧ ¬ k = 7 ∧ ¬ k = 8) :
    Calls Try.prog 39 #[.slice ao n c, .int .i64 (a : Int), .agg (KC ⟨k, x⟩)] w fun r w' => r = o3 ⟨0, false, ⟨#[]⟩⟩ (a : Int) 0 ∧ Below w.heap.size w w' := by
  obtain ⟨g5, hg5⟩ : ∃ g5, w.heap.size = g5 := ⟨_, rfl⟩
  obtain ⟨wa, hwa⟩ : ∃ wa, w.alloc (.cells (KC ⟨k, x⟩) 32) = wa := ⟨_, rfl⟩
  obtain ⟨wq, hwq⟩ : ∃ wq, wa.alloc (.cells (GC ⟨0, false, ⟨#[]⟩⟩) 29) = wq := ⟨_, rfl⟩
  have hsa : wa.heap.size = g5 + 1 := by rw [← hwa, World.size_alloc, hg5]
  have hA := ob_made k x hwa hwq hg5 hsa
  have x0 := hA.k.c0
  have x1 := hA.k.c1
  simp only at x0 x1
  have SQ := S.below hA.bel
  obtain ⟨k1, k2, k3, k4, k5, k6, k7, k8⟩ := hk
  have e1 : (k == 1) = false := by simpa using k1
  have e2 : (k == 2) = false := by simpa using k2
  have e3 : (k == 3) = false := by simpa using k3
  have e4 : (k == 4) = false := by simpa using k4
  have e5 : (k == 5) = false := by simpa using k5
  have e6 : (k == 6) = false := by simpa using k6
  have e7 : (k == 7) = false := by simpa using k7
  have e8 : (k == 8) = false := by simpa using k8
  obtain ⟨hst, hbx, hbl⟩ := hA.st ⟨0, false, ⟨#[]⟩⟩
  have HX := hide hbx
  have HB := hide hbl
  clear hbx hbl
  clear hA SQ S k1 k2 k3 k4 k5 k6 k7 k8
  go_enter Try.func39, Try.ntmps39
  go_wp2_with fail
  exact bodyPost_ret (v := .tuple #[.agg (GC ⟨0, false, ⟨#[]⟩⟩), .int .i64 (a : Int), .int .i64 0]) (res3G Try.results39 rfl rfl rfl HX.out) rfl ⟨rfl, (by first | exact HB.out | (have hh := HB.out; rw [hg5] at hh; exact hh))⟩
set_option maxRecDepth 100000 in
theorem one5_ok (ao : Option Addr) (n c : Nat) (Z : List Int) (a : Nat) (x : Int) (w : World) (S : Src w ao n c Z) (_ : n ≤ c) (ha : a ≤ n) (hn : n ≤ 140737488355328) (h : ctE (Z.drop a) x = 0) :
    Calls Try.prog 39 #[.slice ao n c, .int .i64 (a : Int), .agg (KC ⟨5, x⟩)] w fun r w' => r = o3 ⟨(nmV (Z.drop a) : Int), false, ⟨#[]⟩⟩ ((a + nmK (Z.drop a) : Nat) : Int) 0 ∧ Below w.heap.size w w' := by
  obtain ⟨g5, hg5⟩ : ∃ g5, w.heap.size = g5 := ⟨_, rfl⟩
  obtain ⟨wa, hwa⟩ : ∃ wa, w.alloc (.cells (KC ⟨5, x⟩) 32) = wa := ⟨_, rfl⟩
  obtain ⟨wq, hwq⟩ : ∃ wq, wa.alloc (.cells (GC ⟨0, false, ⟨#[]⟩⟩) 29) = wq := ⟨_, rfl⟩
  have hsa : wa.heap.size = g5 + 1 := by rw [← hwa, World.size_alloc, hg5]
  have hA := ob_made 5 x hwa hwq hg5 hsa
  have x0 := hA.k.c0
  have x1 := hA.k.c1
  simp only at x0 x1
  have SQ := S.below hA.bel
  obtain ⟨v0, k0', e0, hr⟩ : ∃ v k e, rdN Z a = (v, k, e) := ⟨_, _, _, rfl⟩
  have hr' : rdN (Z.drop a) 0 = (v0, k0', e0) := by rw [rdN_drop, hr]
  have hC := refRead_any ao n c Z a wq SQ ha (by omega)
  unfold rdA at hC
  rw [hr] at hC
  unfold p3 at hC
  simp only at hC
  have hmx : ¬ mxN < v0 := by
    have := scan_lt (Z.drop a) 0 9 0 (by decide)
    have h2 : scan (Z.drop a) 0 9 0 = (v0, k0', e0) := hr'
    rw [h2] at this
    unfold mxN
    simp only at this
    omega
  have hnm : nmE (Z.drop a) mxN = e0 := by
    unfold nmE
    rw [hr']
    simp only
    by_cases he : e0 = 0
    · rw [if_neg (by simpa using he), if_neg hmx, he]
    · rw [if_pos he]
  obtain ⟨h1, hq⟩ := ctE_ok h
  obtain rfl : e0 = 0 := hnm.symm.trans h1
  have hlz := S.1
  have hkv := (nm_ok (show nmE (Z.drop a) mxN = 0 from hnm))
  have hv : v0 = (nmV (Z.drop a) : Int) := by have := hkv.1; rw [hr'] at this; exact congrArg (·.1) this
  have hk : k0' = (nmK (Z.drop a) : Int) := by have := hkv.1; rw [hr'] at this; exact congrArg (·.2.1) this
  have hkl := hkv.2.2.1
  rw [List.length_drop, hlz] at hkl
  obtain ⟨v, hvv⟩ : ∃ v, nmV (Z.drop a) = v := ⟨_, rfl⟩
  obtain ⟨nx, hnx⟩ : ∃ nx, a + nmK (Z.drop a) = nx := ⟨_, rfl⟩
  obtain ⟨m, hm⟩ : ∃ m, n - nx = m := ⟨_, rfl⟩
  have hlm : (Z.drop a).length - nmK (Z.drop a) = m := by rw [List.length_drop, hlz]; omega
  rw [hlm, hvv] at hq
  have hpre : (a : Int) + k0' = (nx : Int) := by rw [hk]; omega
  rw [if_pos rfl, hpre, hv, hvv] at hC
  have HC := hide hC
  have hw1 : wrap64 ((n : Int) - (nx : Int)) = (m : Int) := by rw [w64 (by omega) (by omega)]; omega
  have hw := tdiv_wrap (a := (m : Int)) (b := eachN x) (by omega) (by omega) (eachN_pos x)
  have hp := eachN_pos x
  have hez : ¬ eachN x = 0 := by omega
  unfold eachN at hw hq hez
  rw [hvv, hnx]
  obtain ⟨hst, hbx, hbl⟩ := hA.st ⟨(v : Int), false, ⟨#[]⟩⟩
  have HX := hide hbx
  have HB := hide hbl
  clear hbx hbl
  clear hA SQ S hC h h1 hnm hkv hv hk hkl hvv hnx hlm hpre hr hr' hmx hp hlz hm
  by_cases he1 : x < 1
  · rw [if_pos he1] at hw hq hez
    rw [Int.tdiv_one] at hw hq
    go_enter Try.func39, Try.ntmps39
    go_wp2_with fail
    refine HC.out.mono ?_
    rintro r w2 ⟨rfl, rfl⟩
    go_wp2_with fail
    exact bodyPost_ret (v := .tuple #[.agg (GC ⟨(v : Int), false, ⟨#[]⟩⟩), .int .i64 (nx : Int), .int .i64 0]) (res3G Try.results39 rfl rfl rfl HX.out) rfl ⟨rfl, (by first | exact HB.out | (have hh := HB.out; rw [hg5] at hh; exact hh))⟩
  · rw [if_neg he1] at hw hq hez
    rw [Int.tdiv_eq_ediv_of_nonneg (Int.natCast_nonneg m)] at hw hq
    go_enter Try.func39, Try.ntmps39
    go_wp2_with fail
    refine HC.out.mono ?_
    rintro r w2 ⟨rfl, rfl⟩
    go_wp2_with fail
    exact bodyPost_ret (v := .tuple #[.agg (GC ⟨(v : Int), false, ⟨#[]⟩⟩), .int .i64 (nx : Int), .int .i64 0]) (res3G Try.results39 rfl rfl rfl HX.out) rfl ⟨rfl, (by first | exact HB.out | (have hh := HB.out; rw [hg5] at hh; exact hh))⟩
set_option maxRecDepth 100000 in
theorem one5_bad (ao : Option Addr) (n c : Nat) (Z : List Int) (a : Nat) (x : Int) (w : World) (S : Src w ao n c Z) (_ : n ≤ c) (ha : a ≤ n) (hn : n ≤ 140737488355328) {e : Int} (h : ctE (Z.drop a) x = e) (he : e ≠ 0) :
    Calls Try.prog 39 #[.slice ao n c, .int .i64 (a : Int), .agg (KC ⟨5, x⟩)] w fun r w' => r = o3 ⟨0, false, ⟨#[]⟩⟩ 0 e ∧ Below w.heap.size w w' := by
  obtain ⟨g5, hg5⟩ : ∃ g5, w.heap.size = g5 := ⟨_, rfl⟩
  obtain ⟨wa, hwa⟩ : ∃ wa, w.alloc (.cells (KC ⟨5, x⟩) 32) = wa := ⟨_, rfl⟩
  obtain ⟨wq, hwq⟩ : ∃ wq, wa.alloc (.cells (GC ⟨0, false, ⟨#[]⟩⟩) 29) = wq := ⟨_, rfl⟩
  have hsa : wa.heap.size = g5 + 1 := by rw [← hwa, World.size_alloc, hg5]
  have hA := ob_made 5 x hwa hwq hg5 hsa
  have x0 := hA.k.c0
  have x1 := hA.k.c1
  simp only at x0 x1
  have SQ := S.below hA.bel
  obtain ⟨v0, k0', e0, hr⟩ : ∃ v k e, rdN Z a = (v, k, e) := ⟨_, _, _, rfl⟩
  have hr' : rdN (Z.drop a) 0 = (v0, k0', e0) := by rw [rdN_drop, hr]
  have hC := refRead_any ao n c Z a wq SQ ha (by omega)
  unfold rdA at hC
  rw [hr] at hC
  unfold p3 at hC
  simp only at hC
  have hmx : ¬ mxN < v0 := by
    have := scan_lt (Z.drop a) 0 9 0 (by decide)
    have h2 : scan (Z.drop a) 0 9 0 = (v0, k0', e0) := hr'
    rw [h2] at this
    unfold mxN
    simp only at this
    omega
  have hnm : nmE (Z.drop a) mxN = e0 := by
    unfold nmE
    rw [hr']
    simp only
    by_cases he : e0 = 0
    · rw [if_neg (by simpa using he), if_neg hmx, he]
    · rw [if_pos he]
  obtain ⟨hst, hbx, hbl⟩ := hA.st ⟨0, false, ⟨#[]⟩⟩
  have HX := hide hbx
  have HB := hide hbl
  clear hbx hbl
  by_cases h0 : e0 = 0
  · subst h0
    have hq : (((Z.drop a).length - nmK (Z.drop a) : Nat) : Int).tdiv (eachN x) < (nmV (Z.drop a) : Int) ∧ e = 50 := by
      unfold ctE at h
      rw [if_neg (by simpa using hnm)] at h
      split at h
      · rename_i hl; exact ⟨hl, h.symm⟩
      · exact absurd h.symm he
    obtain ⟨hq, rfl⟩ := hq
    have hlz := S.1
    have hkv := (nm_ok (show nmE (Z.drop a) mxN = 0 from hnm))
    have hv : v0 = (nmV (Z.drop a) : Int) := by have := hkv.1; rw [hr'] at this; exact congrArg (·.1) this
    have hk : k0' = (nmK (Z.drop a) : Int) := by have := hkv.1; rw [hr'] at this; exact congrArg (·.2.1) this
    have hkl := hkv.2.2.1
    rw [List.length_drop, hlz] at hkl
    obtain ⟨v, hvv⟩ : ∃ v, nmV (Z.drop a) = v := ⟨_, rfl⟩
    obtain ⟨nx, hnx⟩ : ∃ nx, a + nmK (Z.drop a) = nx := ⟨_, rfl⟩
    obtain ⟨m, hm⟩ : ∃ m, n - nx = m := ⟨_, rfl⟩
    have hlm : (Z.drop a).length - nmK (Z.drop a) = m := by rw [List.length_drop, hlz]; omega
    rw [hlm, hvv] at hq
    have hpre : (a : Int) + k0' = (nx : Int) := by rw [hk]; omega
    rw [if_pos rfl, hpre, hv, hvv] at hC
    have HC := hide hC
    have hw1 : wrap64 ((n : Int) - (nx : Int)) = (m : Int) := by rw [w64 (by omega) (by omega)]; omega
    have hw := tdiv_wrap (a := (m : Int)) (b := eachN x) (by omega) (by omega) (eachN_pos x)
    have hp := eachN_pos x
    have hez : ¬ eachN x = 0 := by omega
    unfold eachN at hw hq hez
    clear hA SQ S hC h he hnm hkv hv hk hkl hvv hnx hlm hpre hr hr' hmx hp hlz hm
    by_cases he1 : x < 1
    · rw [if_pos he1] at hw hq hez
      rw [Int.tdiv_one] at hw hq
      go_enter Try.func39, Try.ntmps39
      go_wp2_with fail
      refine HC.out.mono ?_
      rintro r w2 ⟨rfl, rfl⟩
      go_wp2_with fail
      exact bodyPost_ret (v := .tuple #[.agg (GC ⟨0, false, ⟨#[]⟩⟩), .int .i64 0, .int .i64 50]) (res3G Try.results39 rfl rfl rfl HX.out) rfl ⟨rfl, (by first | exact HB.out | (have hh := HB.out; rw [hg5] at hh; exact hh))⟩
    · rw [if_neg he1] at hw hq hez
      rw [Int.tdiv_eq_ediv_of_nonneg (Int.natCast_nonneg m)] at hw hq
      go_enter Try.func39, Try.ntmps39
      go_wp2_with fail
      refine HC.out.mono ?_
      rintro r w2 ⟨rfl, rfl⟩
      go_wp2_with fail
      exact bodyPost_ret (v := .tuple #[.agg (GC ⟨0, false, ⟨#[]⟩⟩), .int .i64 0, .int .i64 50]) (res3G Try.results39 rfl rfl rfl HX.out) rfl ⟨rfl, (by first | exact HB.out | (have hh := HB.out; rw [hg5] at hh; exact hh))⟩
  · have h1 : e0 = e := by
      unfold ctE at h
      rw [if_pos (by rw [hnm]; exact h0), hnm] at h
      exact h
    subst h1
    have hv : v0 = 0 ∧ k0' = 0 := by
      have := scan_err Z a 9 0 (by show (rdN Z a).2.2 ≠ 0; rw [hr]; exact h0)
      have h2 : scan Z a 9 0 = (v0, k0', e0) := hr
      rw [h2] at this
      exact this
    obtain ⟨rfl, rfl⟩ := hv
    rw [if_neg h0] at hC
    have HC := hide hC
    have heb : (e0 != 0) = true := by simpa using h0
    clear hA SQ S hC h he hnm hr hr' hmx h0
    go_enter Try.func39, Try.ntmps39
    go_wp2_with fail
    refine HC.out.mono ?_
    rintro r w2 ⟨rfl, rfl⟩
    go_wp2_with fail
    exact bodyPost_ret (v := .tuple #[.agg (GC ⟨0, false, ⟨#[]⟩⟩), .int .i64 0, .int .i64 e0]) (res3G Try.results39 rfl rfl rfl HX.out) rfl ⟨rfl, (by first | exact HB.out | (have hh := HB.out; rw [hg5] at hh; exact hh))⟩
end Go.Proofs.Ytflinfmhmokfhaa
