/- ORo ORs ORd TFr -/
import Derived.Test.YtehcehhfdhiomaaGreatTk
import Derived.Test.YtehcehhfdhiomaaGreatTf25
import Derived.Test.YtehcehhfdhiomaaGreatTf10
import Derived.Test.YtehcehhfdhiomaaGreatTf22
import Derived.Test.YtehcehhfdhiomaaGreatTf21
import Derived.Test.YtehcehhfdhiomaaGreatTf13
import Derived.Test.YtehcehhfdhiomaaGreatTf37
import Derived.Test.YtehcehhfdhiomaaGreatTf42
namespace Go.Proofs.YtehcehhfdhiomaaGreat
open Go.RowKit
attribute [local go_sem ↓] ldP_eq stP_eq
attribute [local go_sem] cells_PV PC_size
variable {w w' w2 W W' : World} {g : Nat}

theorem rnat_fields {p : Addr} {r : Rn} (A : RnAt W p r) : W.cell? ⟨p.block, p.off, none⟩ = some (.int .i64 r.lo) ∧ W.cell? ⟨p.block, p.off + 1, none⟩ = some (.int .i64 r.hi) := by
 have hs := World.cell?_spot A.c0
 have c1 := A.c1
 have c0 := A.c0
 obtain ⟨b, o, k⟩ := p
 obtain rfl : k = none := hs
 rw [Addr.add_lit] at c1
 exact ⟨c0, c1⟩
def spOf (d : Rn) : Sn := ⟨d.lo, d.hi, d.hi⟩
theorem runs_dots (D : List Rn) (r : Nat) (hr : r < 16) (n : Int) : mem (runsAt ⟨[], D.map spOf⟩ r) n ↔ mem (dotsG D r) n := by
 rw [mem_runs _ r hr, dotsG_mem]
 constructor
 ·rintro ⟨h1, h2, h3 | ⟨c, hc, h4, h5, h6⟩⟩
  ·simp at h3; omega
  ·obtain ⟨d, hd, rfl⟩ := List.mem_map.1 hc
   unfold spOf at h4 h5 h6
   simp only at h4 h5 h6
   refine ⟨d, hd, ?_, h4, by omega⟩
   unfold okD V.isR
   simp only [Bool.and_eq_true, decide_eq_true_eq]
   omega
 ·rintro ⟨d, hd, h1, h2, rfl⟩
  unfold okD at h1
  simp only [Bool.and_eq_true, decide_eq_true_eq] at h1
  exact ⟨h1.2.1, h1.2.2, .inr ⟨spOf d, List.mem_map.2 ⟨d, hd, rfl⟩, h2, Int.le_refl _, Int.le_refl _⟩⟩
structure RO (w2 W : World) (g3 : Nat) (ao : Option Addr) (k cap : Nat) (acc : List Sn) : Prop where
 own : OwnS g3 (g3 + 1) w2 W ao cap acc
 box : W.heap[g3]? = some (.cells #[.slice none 0 0, .slice ao k cap] 26 (0, 0))
 len : acc.length = k
theorem RO.blk {w2 W : World} {g3 : Nat} {ao : Option Addr} {k cap : Nat} {acc : List Sn} (h : RO w2 W g3 ao k cap acc) : (Value.slice ao acc.length cap).ownBlock ≠ some g3 := fun e => by
 have := (h.own.own.lt g3 e).1
 omega
theorem box2 {b : Nat} {x y : Value} (h : W.heap[b]? = some (.cells #[x, y] 26 (0, 0))) : W.cell? ⟨b, 0, none⟩ = some x ∧ W.cell? ⟨b, 1, none⟩ = some y ∧ ∀ j, W.frozen? ⟨b, j, none⟩ = false :=
 ⟨by simp [World.cell?, h], by simp [World.cell?, h], fun j => by simp [World.frozen?, h]⟩
theorem RO.push {w2 W W2 : World} {g3 : Nat} {ao : Option Addr} {k cap : Nat} {acc : List Sn} {e : Sn} {g6 c6 : Nat} (h : RO w2 W g3 ao k cap acc) (O : OwnS g3 (g3 + 1) w2 W2 (some ⟨g6, 0, none⟩) c6 (acc ++ [e])) (hk : W2.heap[g3]? = W.heap[g3]?) : RO w2 (W2.setCell ⟨g3, 1, none⟩ (.slice (some ⟨g6, 0, none⟩) (k + 1) c6)) g3 (some ⟨g6, 0, none⟩) (k + 1) c6 (acc ++ [e]) := by
 have hb : W2.heap[g3]? = some (.cells #[.slice none 0 0, .slice ao k cap] 26 (0, 0)) := hk.trans h.box
 refine ⟨⟨⟨O.own.1, ?_⟩, ?_, by simpa [World.setCell] using O.hB, O.hB0⟩, ?_, by rw [List.length_append, h.len]; rfl⟩
 ·rcases O.own.2 with ⟨h0, _⟩ | ⟨q, cap2, cur, hv, hbg, hgg, r⟩
  ·cases h0
  ·refine Or.inr ⟨q, cap2, cur, hv, hbg, ?_, r⟩
   rw [← hgg]
   simp [World.setCell, Array.getElem?_modify, show ¬ g3 = q by omega]
 ·exact V.below_setCell O.below (Nat.le_refl _)
 ·simp [World.setCell, Array.getElem?_modify, hb]
set_option maxRecDepth 100000 in
set_option maxHeartbeats 3200000 in
theorem refOf_any (ao : Option Addr) (n c : Nat) (D : List Rn) (w : World) (hS : RSrc w ao n c D) (hnb : n ≤ 5864062014804) :
  Calls Tryz.prog 54 #[.slice ao n c] w fun e w' => GivesP w w' e (CanonOf (dotsG D)) := by
 have b1 := below_new w (.cells #[.slice none 0 0, .slice none 0 0] 26)
 have x1 : PBox (w.alloc (.cells #[.slice none 0 0, .slice none 0 0] 26)) w.heap.size pv0 := pbox_new w pv0
 have s1 := World.size_alloc w (.cells #[.slice none 0 0, .slice none 0 0] 26)
 obtain ⟨w1, hw1⟩ : ∃ w1, w.alloc (.cells #[.slice none 0 0, .slice none 0 0] 26) = w1 := ⟨_, rfl⟩
 rw [hw1] at b1 x1 s1
 have b2 := below_new w1 (.cells #[.slice none 0 0, .slice none 0 0] 26)
 have x2 := heap_alloc_new w1 (.cells #[.slice none 0 0, .slice none 0 0] 26)
 have s2 := World.size_alloc w1 (.cells #[.slice none 0 0, .slice none 0 0] 26)
 obtain ⟨w2, hw2⟩ : ∃ w2, w1.alloc (.cells #[.slice none 0 0, .slice none 0 0] 26) = w2 := ⟨_, rfl⟩
 obtain ⟨g3, hg3⟩ : ∃ g3, w1.heap.size = g3 := ⟨_, rfl⟩
 rw [hw2] at b2 x2 s2
 rw [hg3] at x2 s2
 have HX : Hid (PBox w1 w.heap.size pv0 ∧ Below w.heap.size w w1 ∧ RSrc w1 ao n c D ∧ w1.heap.size = g3 ∧ w.heap.size < g3) := ⟨x1, b1, hS.below b1, hg3, by omega⟩
 have HR0 : Hid (RO w1 w2 g3 none 0 0 []) := ⟨⟨World.ownsRow_nil _ _ _ _, hg3 ▸ b2, by omega, by omega⟩, x2, rfl⟩
 have HD : Hid (D.length = n) := hS.len
 clear b1 b2 x1 x2 hS s1 s2
 go_enter Tryz.func54, Tryz.ntmps54
 go_wp2_with fail
 clear hw1 hw2 hg3
 go_loopw [4] (fun i wr => ∃ (k : Nat) (ap : Option Addr) (cp : Nat), k ≤ n ∧ i = .int .i64 (k : Int) ∧ Hid (RO w1 wr g3 ap k cp ((D.take k).map spOf))) (fun i _ => n - (intOf i).toNat)
 case atStart => exact ⟨0, none, 0, Nat.zero_le _, rfl, HR0⟩
 case round =>
  obtain ⟨k, ap, cp, hk, rfl, HI⟩ := hrel
  rename World => wr
  clear HR0
  by_cases hlt : k < n
  ·have hlti : (k : Int) < (n : Int) := by omega
   obtain ⟨ad, hao, A0⟩ : ∃ ad, ao = some ad ∧ RnAt w1 (ad.add (k * 2)) (D.getD k rn0) := by
    cases ao with
    | none => have := (HX.out.2.2.1.nil rfl).1; omega
    | some ad => exact ⟨ad, rfl, HX.out.2.2.1.cell ad rfl k hlt⟩
   subst hao
   obtain ⟨d, hd⟩ : ∃ d, D.getD k rn0 = d := ⟨_, rfl⟩
   rw [hd] at A0
   have hlb : (ad.add (k * 2)).block < w1.heap.size := World.block_lt_of_cell? _ _ A0.c0
   obtain ⟨q0, q1⟩ := rnat_fields A0
   have HT : Hid ((D.take (k + 1)).map spOf = (D.take k).map spOf ++ [spOf d]) := by
    show _ = _
    rw [List.take_add_one, ← hd, List.getD_eq_getElem?_getD, List.getElem?_eq_getElem (by have := HD.out; omega), List.map_append]
    rfl
   obtain ⟨acc, hacc⟩ : ∃ acc, (D.take k).map spOf = acc := ⟨_, rfl⟩
   rw [hacc] at HI HT
   obtain ⟨lo, hi⟩ := d
   dsimp only at q0 q1
   have HSW : Hid (∀ W : World, (∀ j, j < w1.heap.size → W.heap[j]? = w1.heap[j]?) → W.cell? (ad.add (k * 2)) = some (.int .i64 lo) ∧ W.cell? ⟨(ad.add (k * 2)).block, (ad.add (k * 2)).off, none⟩ = some (.int .i64 lo) ∧ W.cell? ⟨(ad.add (k * 2)).block, (ad.add (k * 2)).off + 1, none⟩ = some (.int .i64 hi)) := fun W e =>
    ⟨(World.cell?_of_block (e _ hlb)).trans A0.c0, (by rw [← q0]; simp only [World.cell?, e _ hlb]), (by rw [← q1]; simp only [World.cell?, e _ hlb])⟩
   have Hw1 : Hid (w1.heap.size = g3) := HX.out.2.2.2.1
   have HSr : Hid (∀ j, j < w1.heap.size → wr.heap[j]? = w1.heap[j]?) := fun j hj => HI.out.own.below.block j (by have := Hw1.out; omega)
   have Hrg : Hid (g3 < wr.heap.size) := by show _ < _; have := HI.out.own.hB; omega
   have y1 : wr.drew.cell? ⟨g3, 1, none⟩ = some (.slice ap k cp) := (box2 HI.out.box).2.1
   have y2 : (wr.drew.alloc (.cells #[.int .i64 lo, .int .i64 hi, .int .i64 hi] 65)).cell? ⟨g3, 1, none⟩ = some (.slice ap k cp) := ((below_new wr.drew _).cell (p := ⟨g3, 1, none⟩) Hrg.out).trans y1
   have y3 : (wr.alloc (.cells #[.int .i64 lo, .int .i64 hi, .int .i64 hi] 65)).cell? ⟨g3, 1, none⟩ = some (.slice ap k cp) := y2
   have HLN : Hid (acc.length < 5864062014805) := by show _ < _; rw [HI.out.len]; omega
   have Hlt := hide hlt
   have HK1 : Hid (∀ j, j < w1.heap.size → (wr.drew.alloc (.cells #[.int .i64 lo, .int .i64 hi, .int .i64 hi] 65)).heap[j]? = w1.heap[j]?) := fun j hj => (Below.heap_alloc wr.drew _ j (show j < wr.heap.size by have := Hw1.out; have := Hrg.out; omega)).trans (HSr.out j hj)
   clear A0 q0 q1 hlb hd hacc hlt hk
   go_upto_region 5 with fail
   refine wp_region_held_drew (S := fun W => W.cell? (ad.add (k * 2)) = some (.int .i64 lo) ∧ W.cell? ⟨(ad.add (k * 2)).block, (ad.add (k * 2)).off, none⟩ = some (.int .i64 lo) ∧ W.cell? ⟨(ad.add (k * 2)).block, (ad.add (k * 2)).off + 1, none⟩ = some (.int .i64 hi)) (by kernel_rfl) (HSW.out _ HSr.out) (fun hHeld => ?_)
   refine wTk 0 ⟨some 11, .fieldAddr 26 (.tmp 3) 1, 0, "ref.go:178", #[], none⟩ rfl ?_
   refine wTk 2 ⟨some 13, .move (.tmp 0), 85, "ref.go:178", #[], none⟩ rfl ?_
   refine wTk 3 ⟨some 14, .move (.tmp 4), 3, "ref.go:178", #[], none⟩ rfl ?_
   refine wTk 4 ⟨some 15, .indexAddr 85 (.tmp 13) (.tmp 14), 0, "ref.go:178", #[⟨2, .data⟩, ⟨3, .data⟩], none⟩ rfl ?_
   refine wTk 5 ⟨some 16, .fieldAddr 46 (.tmp 15) 0, 0, "ref.go:178", #[⟨4, .data⟩], none⟩ rfl ?_
   refine wTk 6 ⟨some 17, .load 3 (.tmp 16), 3, "ref.go:178", #[⟨5, .data⟩], none⟩ rfl ?_
   refine wTk 7 ⟨some 18, .move (.tmp 0), 85, "ref.go:178", #[], none⟩ rfl ?_
   refine wTk 8 ⟨some 19, .move (.tmp 4), 3, "ref.go:178", #[], none⟩ rfl ?_
   refine wTk 9 ⟨some 20, .indexAddr 85 (.tmp 18) (.tmp 19), 0, "ref.go:178", #[⟨7, .data⟩, ⟨8, .data⟩], none⟩ rfl ?_
   refine wTk 10 ⟨some 21, .fieldAddr 46 (.tmp 20) 1, 0, "ref.go:178", #[⟨9, .data⟩], none⟩ rfl ?_
   refine wTk 11 ⟨some 22, .load 3 (.tmp 21), 3, "ref.go:178", #[⟨10, .data⟩], none⟩ rfl ?_
   refine wTk 12 ⟨some 23, .move (.tmp 0), 85, "ref.go:178", #[], none⟩ rfl ?_
   refine wTk 13 ⟨some 24, .move (.tmp 4), 3, "ref.go:178", #[], none⟩ rfl ?_
   refine wTk 14 ⟨some 25, .indexAddr 85 (.tmp 23) (.tmp 24), 0, "ref.go:178", #[⟨12, .data⟩, ⟨13, .data⟩], none⟩ rfl ?_
   refine wTk 15 ⟨some 26, .fieldAddr 46 (.tmp 25) 1, 0, "ref.go:178", #[⟨14, .data⟩], none⟩ rfl ?_
   refine wTk 16 ⟨some 27, .load 3 (.tmp 26), 3, "ref.go:178", #[⟨15, .data⟩], none⟩ rfl ?_
   refine wTk 17 ⟨some 28, .build 65 #[(0, .tmp 17), (1, .tmp 22), (2, .tmp 27)], 65, "ref.go:178", #[⟨6, .data⟩, ⟨11, .data⟩, ⟨16, .data⟩], none⟩ rfl ?_
   refine wpAnyH_ready (rs := [1, 18]) (by kernel_rfl) (by simp) ?_
   refine AllReadyH.cons rfl (fun K hK => ?_) ?_
   ·go_simp
    refine hK.out _ _ (HSW.out _ HSr.out) (fun hHeld => ?_)
    clear hK K
    refine wpAnyH_ready (rs := [18]) (by kernel_rfl) (by simp) (.cons rfl (fun K hK => ?_) .nil)
    go_simp
    refine hK.out _ _ (HSW.out _ HK1.out) (fun hHeld => ?_)
    clear hK K
    refine wpAnyH_ready (rs := [19]) (by kernel_rfl) (by simp) (.cons rfl (fun K hK => ?_) .nil)
    refine HI.out.own.step (spOf ⟨lo, hi⟩) _ (by rfl) HLN.out (by rfl) (.tmp 12) (.tmp 29) (by rfl) k HI.out.len (by rfl) _ (by rfl) (by rfl) ?_
    intro g6 c6 w9 O6 h6
    have e9 : w9.heap[g3]? = wr.heap[g3]? := h6 g3 Hrg.out HI.out.blk
    have f9 := (box2 (e9.trans HI.out.box)).2.2 1
    have d9 := (box2 (e9.trans HI.out.box)).2.1
    have HP := hide (HI.out.push O6 e9)
    have HK2 : Hid (∀ j, j < w1.heap.size → w9.heap[j]? = w1.heap[j]?) := fun j hj => O6.below.block j (by have := Hw1.out; omega)
    have HK3 : Hid (∀ j, j < w1.heap.size → (w9.setCell ⟨g3, 1, none⟩ (.slice (some ⟨g6, 0, none⟩) (k + 1) c6)).heap[j]? = w1.heap[j]?) := fun j hj => HP.out.own.below.block j (by have := Hw1.out; omega)
    refine hK.out _ _ (HSW.out _ HK2.out) (fun hHeld => ?_)
    clear hK K
    refine wTk 20 ⟨some 31, .fieldAddr 26 (.tmp 3) 1, 0, "ref.go:178", #[⟨0, .phase⟩, ⟨1, .phase⟩, ⟨2, .phase⟩, ⟨3, .phase⟩, ⟨4, .phase⟩, ⟨5, .phase⟩, ⟨6, .phase⟩, ⟨7, .phase⟩, ⟨8, .phase⟩, ⟨9, .phase⟩, ⟨10, .phase⟩, ⟨11, .phase⟩, ⟨12, .phase⟩, ⟨13, .phase⟩, ⟨14, .phase⟩, ⟨15, .phase⟩, ⟨16, .phase⟩, ⟨17, .phase⟩, ⟨18, .phase⟩, ⟨19, .phase⟩], none⟩ rfl ?_
    refine wpAnyH_ready (rs := [21]) (by kernel_rfl) (by simp) (.cons rfl (fun K hK => ?_) .nil)
    go_simp
    refine hK.out _ _ (HSW.out _ HK3.out) (fun hHeld => ?_)
    clear hK K
    refine wpAnyH_done (by kernel_rfl) ?_ _
    clear hHeld
    clear O6 h6 e9 f9 d9
    go_wp2_with fail
    go_roundw
    case rel => exact ⟨k + 1, some ⟨g6, 0, none⟩, c6, Hlt.out, by simp, by rw [HT.out]; exact HP⟩
    case measure => simp [intOf]; have := Hlt.out; omega
   ·refine AllReadyH.cons rfl (fun K hK => ?_) ?_
    rotate_left
    ·exact AllReadyH.nil
    go_simp
    refine hK.out _ _ (HSW.out _ HK1.out) (fun hHeld => ?_)
    clear hK K
    refine wpAnyH_ready (rs := [1]) (by kernel_rfl) (by simp) (.cons rfl (fun K hK => ?_) .nil)
    go_simp
    refine hK.out _ _ (HSW.out _ HK1.out) (fun hHeld => ?_)
    clear hK K
    refine wpAnyH_ready (rs := [19]) (by kernel_rfl) (by simp) (.cons rfl (fun K hK => ?_) .nil)
    refine HI.out.own.step (spOf ⟨lo, hi⟩) _ (by rfl) HLN.out (by rfl) (.tmp 12) (.tmp 29) (by rfl) k HI.out.len (by rfl) _ (by rfl) (by rfl) ?_
    intro g6 c6 w9 O6 h6
    have e9 : w9.heap[g3]? = wr.heap[g3]? := h6 g3 Hrg.out HI.out.blk
    have f9 := (box2 (e9.trans HI.out.box)).2.2 1
    have d9 := (box2 (e9.trans HI.out.box)).2.1
    have HP := hide (HI.out.push O6 e9)
    have HK2 : Hid (∀ j, j < w1.heap.size → w9.heap[j]? = w1.heap[j]?) := fun j hj => O6.below.block j (by have := Hw1.out; omega)
    have HK3 : Hid (∀ j, j < w1.heap.size → (w9.setCell ⟨g3, 1, none⟩ (.slice (some ⟨g6, 0, none⟩) (k + 1) c6)).heap[j]? = w1.heap[j]?) := fun j hj => HP.out.own.below.block j (by have := Hw1.out; omega)
    refine hK.out _ _ (HSW.out _ HK2.out) (fun hHeld => ?_)
    clear hK K
    refine wTk 20 ⟨some 31, .fieldAddr 26 (.tmp 3) 1, 0, "ref.go:178", #[⟨0, .phase⟩, ⟨1, .phase⟩, ⟨2, .phase⟩, ⟨3, .phase⟩, ⟨4, .phase⟩, ⟨5, .phase⟩, ⟨6, .phase⟩, ⟨7, .phase⟩, ⟨8, .phase⟩, ⟨9, .phase⟩, ⟨10, .phase⟩, ⟨11, .phase⟩, ⟨12, .phase⟩, ⟨13, .phase⟩, ⟨14, .phase⟩, ⟨15, .phase⟩, ⟨16, .phase⟩, ⟨17, .phase⟩, ⟨18, .phase⟩, ⟨19, .phase⟩], none⟩ rfl ?_
    refine wpAnyH_ready (rs := [21]) (by kernel_rfl) (by simp) (.cons rfl (fun K hK => ?_) .nil)
    go_simp
    refine hK.out _ _ (HSW.out _ HK3.out) (fun hHeld => ?_)
    clear hK K
    refine wpAnyH_done (by kernel_rfl) ?_ _
    clear hHeld
    clear O6 h6 e9 f9 d9
    go_wp2_with fail
    go_roundw
    case rel => exact ⟨k + 1, some ⟨g6, 0, none⟩, c6, Hlt.out, by simp, by rw [HT.out]; exact HP⟩
    case measure => simp [intOf]; have := Hlt.out; omega
  ·have hlti : ¬ (k : Int) < (n : Int) := by omega
   obtain rfl : k = n := by omega
   obtain ⟨pq, hpq⟩ : ∃ pq : Pv, (⟨none, 0, 0, ap, k, cp, ⟨[], D.map spOf⟩⟩ : Pv) = pq := ⟨_, rfl⟩
   have hacc : (D.take k).map spOf = D.map spOf := by rw [List.take_of_length_le (by have := HD.out; omega)]
   rw [hacc] at HI
   have hl := HI.out.len
   have HPS : Hid (PSrc wr pq) := by
    rw [← hpq]
    have h1 := (HI.out.own.src (by rw [hl]; omega)).1
    rw [hl] at h1
    exact ⟨⟨rfl, fun _ => ⟨rfl, rfl⟩, fun ad h => by cases h⟩, h1, by simp⟩
   have l9 : (ldP (.pointer (some ⟨g3, 0, none⟩))).run Tryz.prog wr = .ok (PV pq) wr := by
    rw [← hpq]
    exact run_ldP (PBox.at (p := ⟨none, 0, 0, ap, k, cp, ⟨[], D.map spOf⟩⟩) HI.out.box)
   have HP : Hid (pq.P = ⟨[], D.map spOf⟩) := by show _ = _; rw [← hpq]
   have hb3 := HI.out.own.below
   have hX := HX.out
   have HB : Hid (PBox wr w.heap.size pv0 ∧ Below w.heap.size w wr ∧ w.heap.size + 1 ≤ wr.heap.size) := ⟨(hb3.block _ hX.2.2.2.2).trans hX.1, hX.2.1.trans (hb3.mono (by omega)), by have := HI.out.own.hB; omega⟩
   clear hpq hacc hl hb3 hX hlt
   go_wp2_with fail
   refine (refNorm_any pq _ HPS.out).mono ?_
   rintro e w8 ⟨p, rfl, S2, n2, b2, c2'⟩
   obtain ⟨s1, e1, e2, e3, e4⟩ := past_end (w := w) (HB.out.1.below b2) S2 (n2.mono (by have := HB.out.2.2; omega)) (HB.out.2.1.trans (b2.mono HB.out.2.1.size)) (Nat.le_refl _)
   have HE1 := hide e1
   have HE2 : Hid (GivesP w (w8.setRow w.heap.size (PC p)) (.returned (PV p)) (CanonOf (dotsG D))) := ⟨p, rfl, e2, e3, e4, canonOf_mem (HP.out ▸ c2') (fun r hr n => runs_dots D r hr n)⟩
   clear S2 n2 b2 c2' e1 e2 e3 e4 l9
   go_wp2_with fail
   exact bodyPost_ret (v := PV p) (resP Tryz.results54 rfl HE1.out) rfl HE2.out
end Go.Proofs.YtehcehhfdhiomaaGreat
namespace Go.Proofs.YtehcehhfdhiomaaGreat
open Go.RowKit
attribute [local go_sem ↓] ldP_eq stP_eq ldD_eq stD_eq K.ld28_eq K.st28_eq
attribute [local go_sem] cells_PV PC_size K.zero_EC K.cells_EV K.EC_size K.fold_EC
variable {w w' w2 W W' : World} {g : Nat}

theorem enAt_dot {e : K.En} {a : Addr} (h : K.EnAt W a e) : RnAt W a ⟨e.rep, e.num⟩ := ⟨h.c0, h.c1⟩
end Go.Proofs.YtehcehhfdhiomaaGreat
namespace Go.Proofs.YtehcehhfdhiomaaGreat
open Go.RowKit
attribute [local go_sem ↓] ldP_eq stP_eq ldD_eq stD_eq K.ld28_eq K.st28_eq
attribute [local go_sem] cells_PV PC_size
variable {w w' w2 W W' : World} {g : Nat}

theorem addr_lit {e : K.En} {p : Addr} (h : K.EnAt W p e) : p = ⟨p.block, p.off, none⟩ := by
 have hs := World.cell?_spot h.c0
 obtain ⟨b, o, k⟩ := p
 obtain rfl : k = none := hs
 rfl
set_option maxRecDepth 100000 in
set_option maxHeartbeats 3200000 in
theorem refDots_any (ao : Option Addr) (n cap : Nat) (L : List K.En) (w : World) (hS : K.ESrc w ao n cap L) : Calls Tryz.prog 30 #[.slice ao n cap] w fun x w' => DtA w w' x L := by
 have b1 := below_new w (.cells #[.slice none 0 0, .slice none 0 0] 26)
 have x1 : PBox (w.alloc (.cells #[.slice none 0 0, .slice none 0 0] 26)) w.heap.size pv0 := pbox_new w pv0
 obtain ⟨w1, hw1⟩ : ∃ w1, w.alloc (.cells #[.slice none 0 0, .slice none 0 0] 26) = w1 := ⟨_, rfl⟩
 obtain ⟨g1, hg1⟩ : ∃ g1, w.heap.size = g1 := ⟨_, rfl⟩
 rw [hw1] at b1 x1
 rw [hg1] at x1
 have HX : Hid (PBox w1 g1 pv0 ∧ K.ESrc w1 ao n cap L ∧ Below w.heap.size w w1 ∧ w.heap.size = g1) := ⟨x1, hS.below b1, b1, hg1⟩
 have HL : Hid (L.length = n ∧ n ≤ 3518437208883) := ⟨hS.1, hS.2.2.2.2⟩
 have hnb := HL.out.2
 clear b1 x1 hS
 go_enter Tryz.func30, Tryz.ntmps30
 go_wp2_with fail
 clear hw1 hg1
 refine (K.refCheckL_any ao n cap L _ HX.out.2.1).mono ?_
 rintro x w2 ⟨rfl, b2⟩
 have HB2 := hide (HX.out.2.2.1.trans (b2.mono HX.out.2.2.1.size))
 have HX2 : Hid (PBox w2 g1 pv0 ∧ K.ESrc w2 ao n cap L ∧ w.heap.size = g1) := ⟨HX.out.1.below b2, HX.out.2.1.below b2, HX.out.2.2.2⟩
 clear b2 HX
 rcases K.chk_cases L with hc | hc
 rotate_left
 ·have HE : Hid (DtA w (w2.setRow g1 (PC pv0)) (.returned (.tuple #[PV pv0, .int .i64 1])) L) := ⟨below_setRow HB2.out (by have := HX2.out.2.2; omega), .inr ⟨by rw [hc]; decide, rfl⟩⟩
  have t6 : (stP (.pointer (some ⟨g1, 0, none⟩)) (.agg #[.slice none 0 0, .slice none 0 0])).run Tryz.prog w2 = .ok () (w2.setRow g1 (PC pv0)) := run_stP (p' := pv0) HX2.out.1
  have HX0 : Hid (PBox (w2.setRow g1 (PC pv0)) g1 pv0) := setRow_heap _ _ _ _ _ _ HX2.out.1
  rw [hc]
  clear hc
  go_wp2_with fail
  refine bodyPost_ret (res2Pn rfl rfl rfl HX0.out) rfl ?_
  exact HE.out
 ·rw [hc]
  have HC := hide hc
  clear hc
  go_wp2_with fail
  go_loopw [4, 5] (fun v i wr => ∃ (k : Nat) (ap : Option Addr) (c : Nat), k ≤ n ∧ v = .slice ap k c ∧ i = .int .i64 (k : Int) ∧ Hid (OwnD w2.heap.size w2.heap.size w2 wr ap c ((L.take k).map dotOf))) (fun _ i _ => n - (intOf i).toNat)
  case atStart => exact ⟨0, none, 0, Nat.zero_le _, rfl, rfl, World.ownsRow_nil _ _ _ _, Below.refl _ _, Nat.le_refl _, Nat.le_refl _⟩
  case round =>
   obtain ⟨k, ap, c, hk, rfl, rfl, HO⟩ := hrel
   rename World => wr
   obtain ⟨acc, Hacc⟩ : ∃ acc, Hid ((L.take k).map dotOf = acc) := ⟨_, rfl⟩
   have Hal : Hid (acc.length = k) := by show _ = _; rw [← Hacc.out, List.length_map, List.length_take]; have := HL.out.1; omega
   rw [Hacc.out] at HO
   by_cases hlt : k < n
   ·have hlti : (k : Int) < (n : Int) := by omega
    obtain ⟨ad, hao, A0⟩ := (HX2.out.2.1.below HO.out.below).at k hlt
    subst hao
    obtain ⟨e, He⟩ : ∃ e, Hid (L.getD k K.en0 = e) := ⟨_, rfl⟩
    rw [He.out] at A0
    have HT := hide (K.take_snoc L k (by rw [HL.out.1]; exact hlt))
    rw [He.out] at HT
    have HN : Hid ((L.take (k + 1)).map dotOf = acc ++ [dotOf e]) := by show _ = _; rw [HT.out, List.map_append, Hacc.out]; rfl
    have l7 : (ldD (.pointer (some (ad.add (k * 4))))).run Tryz.prog wr = .ok (.agg #[.int .i64 e.rep, .int .i64 e.num]) wr := run_ldD (enAt_dot A0)
    have l8 : (ldD (.pointer (some ⟨(ad.add (k * 4)).block, (ad.add (k * 4)).off, none⟩))).run Tryz.prog wr = .ok (.agg #[.int .i64 e.rep, .int .i64 e.num]) wr := by rw [← addr_lit A0]; exact l7
    have Hlt := hide hlt
    clear A0 hlt
    go_wp2_with (at_builtin; go_loud (refine (HO.out.later (below_new wr _)).appendS [dotOf e] (some ⟨wr.heap.size, 0, none⟩) 1 1 (lit_rsrc wr [dotOf e] _ rfl 46 1 rfl (by omega)) (by have := Hal.out; have := Hlt.out; omega) rfl (.tmp 16) (.tmp 22) rfl k Hal.out rfl rfl ?_); intro ao8 c8 w8 O8; have HO8 := hide O8; clear O8)
    clear l7 l8
    go_roundw
    case rel => exact ⟨k + 1, ao8, c8, Hlt.out, rfl, by simp, by show OwnD _ _ _ _ _ _ _; rw [HN.out]; exact HO8.out⟩
    case measure => simp [intOf]; have := Hlt.out; omega
   ·have hlti : ¬ (k : Int) < (n : Int) := by omega
    obtain rfl : k = n := by omega
    have HAc : Hid (acc = L.map dotOf) := by show _ = _; rw [← Hacc.out, List.take_of_length_le (by have := HL.out.1; omega)]
    obtain ⟨hsr, hnw⟩ := HO.out.src (by have := Hal.out; omega)
    have hsr2 : RSrc wr ap k c acc := by have := Hal.out; rw [this] at hsr; exact hsr
    have HC7 := hide (refOf_any ap k c acc wr hsr2 (by omega))
    have HBr := hide (HB2.out.trans (HO.out.below.mono HB2.out.size))
    have HXr := hide (HX2.out.1.below HO.out.below)
    have HG : Hid (w.heap.size = g1 ∧ g1 < wr.heap.size) := ⟨HX2.out.2.2, HXr.out.lt⟩
    clear hsr hnw hsr2
    go_wp2_with fail
    refine HC7.out.mono ?_
    rintro x w8 ⟨p, rfl, S8, n8, b8, c8⟩
    have X8 := HXr.out.below b8
    have t8 := run_stP (p' := p) X8
    have HX8 : Hid (PBox (w8.setRow g1 (PC p)) g1 p) := setRow_heap _ _ _ _ _ _ X8
    have HE : Hid (DtA w (w8.setRow g1 (PC p)) (.returned (.tuple #[PV p, .int .i64 0])) L) := by
     have hb := HBr.out.trans (b8.mono HBr.out.size)
     refine ⟨below_setRow hb (by have := HG.out; omega), .inl ⟨HC.out, p, rfl, psrc_off S8 (fun ad h => setRow_other _ _ _ _ (by have := n8.1 ad h; have := HG.out; omega)) (fun ad h => setRow_other _ _ _ _ (by have := n8.2 ad h; have := HG.out; omega)), n8.mono (by have := HG.out; omega), by rw [← HAc.out]; exact c8⟩⟩
    clear S8 n8 b8 c8 X8 HC7
    go_wp2_with fail
    refine bodyPost_ret (res2Pn rfl rfl rfl HX8.out) rfl ?_
    exact HE.out
end Go.Proofs.YtehcehhfdhiomaaGreat
namespace Go.Proofs.YtehcehhfdhiomaaGreat
open Go.RowKit
attribute [local go_sem ↓] ldP_eq stP_eq ldFa_eq stFa_eq ldD_eq stD_eq K.ld28_eq K.st28_eq bsPs_eq
attribute [local go_sem] cells_PV PC_size cells_FaV FaC_size zero_FaZ cells_RV RC_size zero_RC fold_RC K.zero_EC K.cells_EV K.EC_size K.fold_EC run_bsPs
theorem live_rm (f : Fc) : liveL f = f.es.filter (fun e => !rmB f e) := by
 unfold liveL rmB
 rw [List.filter_filter]
 refine List.filter_congr fun e _ => ?_
 unfold pkB
 cases inB f.p.P e <;> cases freeB f.rs e <;> rfl
theorem takeE2 (L : List K.En) (k : Nat) (h : k < L.length) : L.take (k + 1) = L.take k ++ [L.getD k K.en0] := by
 rw [List.take_succ_eq_append_getElem h]; simp [List.getD, h]
set_option maxRecDepth 100000 in
set_option maxHeartbeats 3200000 in
theorem refLive_any (f : Fc) (w : World) (hF : FcOk w f) : Calls Tryz.prog 10 #[FaV (mkF f)] w fun e w' => LvA w w' e f := by
 have b1 := below_new w (.cells (FaC (mkF f)) 29)
 have X1 := FaBox_new w (mkF f)
 obtain ⟨wk, hwk⟩ : ∃ w1, w.alloc (.cells (FaC (mkF f)) 29) = w1 := ⟨_, rfl⟩
 rw [hwk] at b1 X1
 obtain ⟨G, hG0⟩ : ∃ G, w.heap.size = G := ⟨_, rfl⟩
 rw [hG0] at X1
 have HX := hide X1
 have HBK := hide b1
 have HF := hide (hF.below b1)
 clear hF b1 X1
 have lf := run_ldFa HX.out
 go_enter Tryz.func10, Tryz.ntmps10
 go_wp2_with fail
 clear hwk hG0 lf
 refine (refCheckF_any f _ HF.out).mono ?_
 rintro e w3 ⟨x, rfl, hx, b3⟩
 have HB3 := hide (HBK.out.trans (b3.mono HBK.out.size))
 have HX3 := hide (HX.out.below b3)
 have HF3 := hide (HF.out.below b3)
 clear b3
 rcases hx with ⟨rfl, h1⟩ | ⟨rfl, h1⟩
 rotate_left
 ·have HE : Hid (LvA w w3 (.returned (.tuple #[.slice none 0 0, .int .i64 1])) f) := .inr ⟨h1, none, 0, 0, rfl, esrc_nil _, HB3.out, fun ad e => (by cases e)⟩
  clear h1
  go_wp2_with fail
  go_ret2
  exact HE.out
 have HFo := hide h1
 clear h1
 obtain ⟨n, hn⟩ : ∃ n, f.an = n := ⟨_, rfl⟩
 obtain ⟨ao, hao⟩ : ∃ a, f.ao = a := ⟨_, rfl⟩
 obtain ⟨ac, hac⟩ : ∃ a, f.ac = a := ⟨_, rfl⟩
 have HS : Hid (K.ESrc w3 ao n ac f.es) := by rw [← hn, ← hao, ← hac]; exact HF3.out.es
 have HCs : Hid (∀ W, FaBox W G (mkF f) → W.cell? ⟨G, 0, none⟩ = some (.slice ao n ac)) := fun W h => by rw [← hn, ← hao, ← hac]; exact h.cs.1
 have HLn : Hid (f.es.length = n) := HS.out.1
 have hnb := HS.out.2.2.2.2
 clear hn hao hac
 go_wp2_with fail
 go_loopw [4, 5] (fun v i wr => ∃ (k : Nat) (ap : Option Addr) (c2 : Nat) (acc : List K.En), k ≤ n ∧ v = .slice ap acc.length c2 ∧ i = .int .i64 (k : Int) ∧ Hid (acc = (f.es.take k).filter (fun e => !rmB f e) ∧ K.OwnE w3.heap.size w3.heap.size w3 wr ap c2 acc)) (fun _ i _ => n - (intOf i).toNat)
 case atStart => exact ⟨0, none, 0, [], Nat.zero_le _, rfl, rfl, rfl, K.OwnE.nil (Below.refl _ _) (Nat.le_refl _) (Nat.le_refl _)⟩
 case round =>
  obtain ⟨k, ap, c2, acc, hk, rfl, rfl, HO⟩ := hrel
  rename World => wr
  have c0 := HCs.out _ (HX3.out.below HO.out.2.below)
  by_cases hlt : k < n
  ·have hlti : (k : Int) < (n : Int) := by omega
   have hal : acc.length ≤ k := by
    rw [HO.out.1]; exact Nat.le_trans (List.length_filter_le _ _) (by rw [List.length_take]; omega)
   have halb : acc.length < 3518437208883 := by omega
   have HT := hide (takeE2 f.es k (by rw [HLn.out]; exact hlt))
   obtain ⟨ad, hao, A0⟩ := (HS.out.below HO.out.2.below).at k hlt
   subst hao
   obtain ⟨e, He⟩ : ∃ e, Hid (f.es.getD k K.en0 = e) := ⟨_, rfl⟩
   rw [He.out] at A0 HT
   have hld := K.run_ld28 A0
   obtain ⟨g3, hg3⟩ : ∃ g3, wr.heap.size = g3 := ⟨_, rfl⟩
   obtain ⟨w4, hst, X4, B4, -⟩ := K.made wr e g3 hg3
   have HX4 := hide X4
   have HO4 := hide (HO.out.2.later B4)
   have Hlt := hide hlt
   have Hacc : Hid (acc = (f.es.take k).filter (fun e => !rmB f e)) := HO.out.1
   have ldd : (ldD (.pointer (some ⟨g3, 0, none⟩))).run Tryz.prog w4 = .ok (RV (dotE e)) w4 := run_ldD ⟨X4.at.c0, X4.at.c1⟩
   have lp := run_ldP (HX3.out.below HO4.out.below).past
   have HNo : Hid (rmB f e = true → acc = (f.es.take (k + 1)).filter (fun e => !rmB f e)) := fun h => by
    rw [HT.out, List.filter_append, ← Hacc.out, List.filter_cons_of_neg (by simp [h]), List.filter_nil, List.append_nil]
   have HYes : Hid (rmB f e = false → acc ++ [e] = (f.es.take (k + 1)).filter (fun e => !rmB f e)) := fun h => by
    rw [HT.out, List.filter_append, ← Hacc.out, List.filter_cons_of_pos (by simp [h]), List.filter_nil]
   clear A0 X4 B4 hlt hk HO
   go_wp2_with fail
   clear hld hst hg3 ldd lp c0
   refine (refHas_any f.p (dotE e) _ (HF3.out.p.below HO4.out.below)).mono ?_
   rintro x w5 ⟨y, rfl, hy, b5⟩
   have hyb : y = inB f.p.P e := by rw [Bool.eq_iff_iff, inB_iff]; exact hy
   have HO5 := hide (HO4.out.later b5)
   have HX5 := hide (HX4.out.below b5)
   clear hy b5
   cases y with
   | true =>
    have HN := hide (HNo.out (by unfold rmB; rw [← hyb]; rfl))
    clear hyb
    go_wp2_with fail
    go_roundw
    case rel => exact ⟨k + 1, ap, c2, acc, Hlt.out, rfl, by have := Hlt.out; simp, HN.out, HO5.out⟩
    case measure => simp [intOf]; have := Hlt.out; omega
   | false =>
    obtain ⟨-, c3⟩ := (HX3.out.below HO5.out.below).cs
    have l5 := K.run_ld28 HX5.out.at
    have Hyb := hide hyb
    clear hyb
    go_wp2_with fail
    clear c3 l5
    refine (refBars_any f.ro f.rn f.rc f.rs e _ (HF3.out.rs.below HO5.out.below)).mono ?_
    rintro x w6 ⟨rfl, b6⟩
    have hcf := count_free f.rs e
    obtain ⟨m, hm⟩ : ∃ m, f.rs.countP (fun r => covB r e) = m := ⟨_, rfl⟩
    rw [hm] at hcf ⊢
    have HO6 := hide (HO5.out.later b6)
    have HX6 := hide (HX5.out.below b6)
    have l6 := K.run_ld28 HX6.out.at
    clear b6 hm
    cases hfr : freeB f.rs e with
    | true =>
     obtain rfl : m = 0 := by
      have : ¬ 0 < m := fun q => by have := hcf.1 q; rw [hfr] at this; cases this
      omega
     have HN := hide (HYes.out (by unfold rmB; rw [← Hyb.out, hfr]; rfl))
     clear hcf hfr
     go_wp2_with (at_builtin; refine HO6.out.append e _ rfl halb rfl (.tmp 35) (.tmp 37) rfl acc.length rfl rfl rfl ?_; intro g6 c6 w7 O7 hk7; have HO7 := hide O7; clear O7 hk7)
     clear l6
     go_roundw
     case rel => exact ⟨k + 1, some ⟨g6, 0, none⟩, c6, acc ++ [e], Hlt.out, by simp, by have := Hlt.out; simp, HN.out, HO7.out⟩
     case measure => simp [intOf]; have := Hlt.out; omega
    | false =>
     have hm0 : 0 < m := hcf.2 hfr
     have hz : ((m : Int) == 0) = false := by simp; omega
     have hz2 : decide ((m : Int) = 0) = false := by simp; omega
     have HN := hide (HNo.out (by unfold rmB; rw [hfr]; simp))
     clear hcf hfr hm0
     go_wp2_with fail
     clear l6 hz hz2
     go_roundw
     case rel => exact ⟨k + 1, ap, c2, acc, Hlt.out, rfl, by have := Hlt.out; simp, HN.out, HO6.out⟩
     case measure => simp [intOf]; have := Hlt.out; omega
  ·have hlti : ¬ (k : Int) < (n : Int) := by omega
   have hacc : acc = liveL f := by rw [live_rm, HO.out.1, List.take_of_length_le (by rw [HLn.out]; omega)]
   obtain ⟨S9, N9⟩ := HO.out.2.src (fun e he => HS.out.2.2.2.1 e (by rw [hacc, live_rm] at he; exact (List.mem_filter.1 he).1)) (by
    have h1 : acc.length ≤ f.es.length := by rw [hacc, live_rm]; exact List.length_filter_le _ _
    have h2 := HLn.out
    omega)
   have HE : Hid (LvA w wr (.returned (.tuple #[.slice ap acc.length c2, .int .i64 0])) f) := .inl ⟨HFo.out, ap, acc.length, c2, rfl, by rw [← hacc]; exact S9, HB3.out.trans (HO.out.2.below.mono HB3.out.size), fun ad e => Nat.le_trans HB3.out.size (N9 ad e)⟩
   clear S9 N9 hacc hk HO
   go_wp2_with fail
   clear c0
   go_ret2
   exact HE.out
set_option maxRecDepth 100000 in
set_option maxHeartbeats 3200000 in
theorem refPast_any (f : Fc) (w : World) (hF : FcOk w f) : Calls Tryz.prog 11 #[FaV (mkF f)] w fun e w' => PsA w w' e f := by
 have b1 := below_new w (.cells (FaC (mkF f)) 29)
 have X1 := FaBox_new w (mkF f)
 obtain ⟨w1, hw1⟩ : ∃ w1, w.alloc (.cells (FaC (mkF f)) 29) = w1 := ⟨_, rfl⟩
 have hs1 : w1.heap.size = w.heap.size + 1 := by rw [← hw1]; simp
 rw [hw1] at b1 X1
 have x2 : PBox (w1.alloc (.cells #[.slice none 0 0, .slice none 0 0] 26)) w1.heap.size pv0 := pbox_new w1 pv0
 have b2 := below_new w1 (.cells #[.slice none 0 0, .slice none 0 0] 26)
 obtain ⟨w2, hw2⟩ : ∃ w2, w1.alloc (.cells #[.slice none 0 0, .slice none 0 0] 26) = w2 := ⟨_, rfl⟩
 rw [hw2] at x2 b2
 rw [hs1] at x2
 obtain ⟨G, hG0⟩ : ∃ G, w.heap.size = G := ⟨_, rfl⟩
 rw [hG0] at X1 x2 hs1
 have HX := hide (X1.below b2)
 have HZ := hide x2
 have HBK := hide (b1.trans (b2.mono b1.size))
 have HF := hide (hF.below HBK.out)
 have HGs : Hid (w.heap.size = G) := hG0
 clear hF b1 b2 X1 x2
 obtain ⟨c0, -⟩ := HX.out.cs
 go_enter Tryz.func11, Tryz.ntmps11
 go_wp2_with fail
 clear hw1 hw2 hs1 hG0 c0
 refine (refDots_any f.ao f.an f.ac f.es _ HF.out.es).mono ?_
 rintro e w4 h4
 obtain ⟨p, er, rfl, S4, n4, b4, hd⟩ : ∃ (p : Pv) (er : Int), e = .returned (.tuple #[PV p, .int .i64 er]) ∧ PSrc w4 p ∧ PNew w2.heap.size p ∧ Below w2.heap.size w2 w4 ∧ ((K.chk f.es = 0 ∧ er = 0 ∧ CanonOf (dotsG (f.es.map dotOf)) p.P) ∨ (¬ K.chk f.es = 0 ∧ er = 1)) := by
  obtain ⟨b4, ⟨hc, p, rfl, S4, n4, C4⟩ | ⟨hc, rfl⟩⟩ := h4
  ·exact ⟨p, 0, rfl, S4, n4, b4, .inl ⟨hc, rfl, C4⟩⟩
  ·exact ⟨pv0, 1, rfl, PSrc.zero _, ⟨fun ad h => (by cases h), fun ad h => (by cases h)⟩, b4, .inr ⟨hc, rfl⟩⟩
 obtain ⟨g5, hg5⟩ : ∃ g, w4.heap.size = g := ⟨_, rfl⟩
 obtain ⟨w6, s5, X6, B6, -⟩ := madeP w4 p g5 hg5
 replace s5 : (stP (.pointer (some ⟨g5, 0, none⟩)) (PV p)).run Tryz.prog (w4.alloc (.cells #[.slice none 0 0, .slice none 0 0] 26)) = .ok () w6 := s5
 have b46 := b4.trans (B6.mono b4.size)
 have HB6 := hide (HBK.out.trans (b46.mono HBK.out.size))
 have HX6 := hide (HX.out.below b46)
 have HZ6 := hide (HZ.out.below b46)
 have HF6 := hide (HF.out.below b46)
 have HP6 := hide (S4.below B6)
 have HQ6 := hide X6
 clear h4 S4 n4 b4 X6 B6 b46
 have key : ∀ W : World, Below w.heap.size w W → PBox W (G + 1) pv0 → ¬ FormF f → (stP (.pointer (some ⟨G + 1, 0, none⟩)) (.agg #[.slice none 0 0, .slice none 0 0])).run Tryz.prog W = .ok () (W.setRow (G + 1) (PC pv0)) ∧ PBox (W.setRow (G + 1) (PC pv0)) (G + 1) pv0 ∧ PsA w (W.setRow (G + 1) (PC pv0)) (.returned (.tuple #[PV pv0, .int .i64 1])) f := fun W hb hz hf =>
  ⟨run_stP (p' := pv0) hz, setRow_heap _ _ _ _ _ _ hz, pv0, 1, rfl, PSrc.zero _, ⟨fun ad h => (by cases h), fun ad h => (by cases h)⟩, below_setRow hb (by rw [HGs.out]; omega), .inl ⟨hf, rfl, rfl⟩⟩
 rcases hd with ⟨hc, rfl, C4⟩ | ⟨hc, rfl⟩
 rotate_left
 ·obtain ⟨t6, x6, e6⟩ := key w6 HB6.out HZ6.out (fun h => hc ((chk_okN HF6.out.es.1).2 h.1))
  have HX0 := hide x6
  have HE := hide e6
  clear key hc x6 e6
  go_wp2_with fail
  clear t6 s5 hg5
  refine bodyPost_ret (res2Pn rfl rfl rfl HX0.out) rfl ?_
  exact HE.out
 have HC6 := hide C4
 have Hkey := hide key
 have lf := run_ldFa HX6.out
 clear hc C4 key
 go_wp2_with fail
 clear s5 hg5 lf
 refine (refCheckF_any f _ HF6.out).mono ?_
 rintro e w7 ⟨x, rfl, hx, b7⟩
 have HB7 := hide (HB6.out.trans (b7.mono HB6.out.size))
 have HX7 := hide (HX6.out.below b7)
 have HZ7 := hide (HZ6.out.below b7)
 have HF7 := hide (HF6.out.below b7)
 have HP7 := hide (HP6.out.below b7)
 have HQ7 := hide (HQ6.out.below b7)
 clear b7
 rcases hx with ⟨rfl, h1⟩ | ⟨rfl, h1⟩
 rotate_left
 ·obtain ⟨t6, x6, e6⟩ := Hkey.out w7 HB7.out HZ7.out h1
  have HX0 := hide x6
  have HE := hide e6
  clear h1 x6 e6
  go_wp2_with fail
  clear t6
  refine bodyPost_ret (res2Pn rfl rfl rfl HX0.out) rfl ?_
  exact HE.out
 have HFo := hide h1
 have lp := run_ldP HQ7.out.at
 have lq := run_ldP HX7.out.past
 have hPR := prow2 w7 p f.p HP7.out HF7.out.p
 have b8 := below_new w7 (.cells #[.slice p.vo p.vn p.vc, .slice p.co p.cn p.cc, .slice f.p.vo f.p.vn f.p.vc, .slice f.p.co f.p.cn f.p.cc] 26)
 have lb := run_bsPs p f.p w7
 obtain ⟨g8, hg8⟩ : ∃ g, w7.heap.size = g := ⟨_, rfl⟩
 obtain ⟨w8, hw8⟩ : ∃ w8, w7.alloc (.cells #[.slice p.vo p.vn p.vc, .slice p.co p.cn p.cc, .slice f.p.vo f.p.vn f.p.vc, .slice f.p.co f.p.cn f.p.cc] 26) = w8 := ⟨_, rfl⟩
 rw [hw8] at hPR b8 lb
 rw [hg8] at hPR lb
 have HPR := hide hPR
 have HB8 := hide (HB7.out.trans (b8.mono HB7.out.size))
 have HZ8 := hide (HZ7.out.below b8)
 clear hPR b8 h1
 go_wp2_with fail
 clear lp lq lb hg8 hw8
 refine (refJoin_any (some ⟨g8, 0, none⟩) 2 2 [p, f.p] _ HPR.out (bsP2_wt (canon_iff.1 HC6.out.canon) HFo.out.2.1) (by decide)).mono ?_
 rintro e w9 ⟨q, rfl, S8, n8, b8, C8⟩
 have hz : G + 1 + 1 ≤ w8.heap.size := by have := HZ8.out.lt; omega
 obtain ⟨s1, e1, e2, e3, e4⟩ := past_end (w := w) (HZ8.out.below b8) S8 (n8.mono hz) (HB8.out.trans (b8.mono HB8.out.size)) (by rw [HGs.out]; omega)
 have HE1 := hide e1
 have HE : Hid (PsA w (w9.setRow (G + 1) (PC q)) (.returned (.tuple #[PV q, .int .i64 0])) f) := ⟨q, 0, rfl, e2, e3, e4, .inr ⟨HFo.out, rfl, canon_iff.1 C8.canon, fun r hr n => by
  rw [canon_mem C8 r hr n]
  show mem (runsAt p.P r ++ (runsAt f.p.P r ++ [])) n ↔ _
  rw [List.append_nil, mem_append, canon_mem HC6.out r hr n]
  exact Iff.rfl⟩⟩
 clear S8 n8 b8 C8 e1 e2 e3 e4 hz
 go_wp2_with fail
 clear s1
 refine bodyPost_ret (res2Pn rfl rfl rfl HE1.out) rfl ?_
 exact HE.out
end Go.Proofs.YtehcehhfdhiomaaGreat
