/- ORo ORd -/
import Derived.Test.YtooinnhjeloocaaGreatLs41
import Derived.Test.YtooinnhjeloocaaGreatLs14
import Derived.Test.YtooinnhjeloocaaGreatLs42
import Derived.Test.YtooinnhjeloocaaGreatLs34
namespace Go.Proofs.YtooinnhjeloocaaGreat
open Go.RowKit
attribute [local go_sem ↓] ldP_eq stP_eq
attribute [local go_sem] cells_PV PC_size
variable {w w' w2 W W' : World} {g : Nat}

theorem rnat_fields {p : Addr} {r : Rn} (A : RnAt W p r) : W.cell? ⟨p.block, p.off, none⟩ = some (.int .i64 r.lo) ∧ W.cell? ⟨p.block, p.off + 1, none⟩ = some (.int .i64 r.hi) := by
  have hs := World.cell?_spot A.c0
  have c1 := A.c1
  have c0 := A.c0
  obtain ⟨b, o, k⟩ := p
  obtain rfl : k = none := hs
  rw [Addr.add_lit] at c1
  exact ⟨c0, c1⟩
/-- a dot as a run of one -/
def spOf (d : Rn) : Sn := ⟨d.lo, d.hi, d.hi⟩
theorem runs_dots (D : List Rn) (r : Nat) (hr : r < 16) (n : Int) : mem (runsAt ⟨[], D.map spOf⟩ r) n ↔ mem (dotsG D r) n := by
  rw [mem_runs _ r hr, dotsG_mem]
  constructor
  · rintro ⟨h1, h2, h3 | ⟨c, hc, h4, h5, h6⟩⟩
    · simp at h3; omega
    · obtain ⟨d, hd, rfl⟩ := List.mem_map.1 hc
      unfold spOf at h4 h5 h6
      simp only at h4 h5 h6
      refine ⟨d, hd, ?_, h4, by omega⟩
      unfold okD V.isR
      simp only [Bool.and_eq_true, decide_eq_true_eq]
      omega
  · rintro ⟨d, hd, h1, h2, rfl⟩
    unfold okD at h1
    simp only [Bool.and_eq_true, decide_eq_true_eq] at h1
    exact ⟨h1.2.1, h1.2.2, .inr ⟨spOf d, List.mem_map.2 ⟨d, hd, rfl⟩, h2, Int.le_refl _, Int.le_refl _⟩⟩
/-- while the runs are laid -/
structure RO (w2 W : World) (g3 : Nat) (ao : Option Addr) (k cap : Nat) (acc : List Sn) : Prop where
  own : OwnS g3 (g3 + 1) w2 W ao cap acc
  box : W.heap[g3]? = some (.cells #[.slice none 0 0, .slice ao k cap] 26 (0, 0))
  len : acc.length = k
theorem RO.blk {w2 W : World} {g3 : Nat} {ao : Option Addr} {k cap : Nat} {acc : List Sn} (h : RO w2 W g3 ao k cap acc) : (Value.slice ao acc.length cap).ownBlock ≠ some g3 := fun e => by
  have := (h.own.own.lt g3 e).1
  omega
theorem box2 {b : Nat} {x y : Value} (h : W.heap[b]? = some (.cells #[x, y] 26 (0, 0))) : W.cell? ⟨b, 0, none⟩ = some x ∧ W.cell? ⟨b, 1, none⟩ = some y ∧ ∀ j, W.frozen? ⟨b, j, none⟩ = false :=
  ⟨by simp [World.cell?, h], by simp [World.cell?, h], fun j => by simp [World.frozen?, h]⟩
theorem RO.push {w2 W W2 : World} {g3 : Nat} {ao : Option Addr} {k cap : Nat} {acc : List Sn} {e : Sn} {g6 c6 : Nat} (h : RO w2 W g3 ao k cap acc) (O : OwnS g3 (g3 + 1) w2 W2 (some ⟨g6, 0, none⟩) c6 (acc ++ [e])) (hk : W2.heap[g3]? = W.heap[g3]?) : RO w2 (W2.setCell ⟨g3, 1, none⟩ (.slice (some ⟨g6, 0, none⟩) (k + 1) c6)) g3 (some ⟨g6, 0, none⟩) (k + 1) c6 (acc ++ [e]) := by
  have hb : W2.heap[g3]? = some (.cells #[.slice none 0 0, .slice ao k cap] 26 (0, 0)) := hk.trans h.box
  refine ⟨⟨⟨O.own.1, ?_⟩, ?_, by simpa [World.setCell] using O.hB, O.hB0⟩, ?_, by rw [List.length_append, h.len]; rfl⟩
  · rcases O.own.2 with ⟨h0, _⟩ | ⟨q, cap2, cur, hv, hbg, hgg, r⟩
    · cases h0
    · refine Or.inr ⟨q, cap2, cur, hv, hbg, ?_, r⟩
      rw [← hgg]
      simp [World.setCell, Array.getElem?_modify, show ¬ g3 = q by omega]
  · exact V.below_setCell O.below (Nat.le_refl _)
  · simp [World.setCell, Array.getElem?_modify, hb]
set_option maxRecDepth 100000 in
set_option maxHeartbeats 3200000 in
theorem refOf_any (ao : Option Addr) (n c : Nat) (D : List Rn) (w : World) (hS : RSrc w ao n c D) (hnb : n ≤ 5864062014804) :
    Calls Tryz.prog 26 #[.slice ao n c] w fun e w' => GivesP w w' e (CanonOf (dotsG D)) := by
  have b1 := below_new w (.cells #[.slice none 0 0, .slice none 0 0] 26)
  have x1 : PBox (w.alloc (.cells #[.slice none 0 0, .slice none 0 0] 26)) w.heap.size pv0 := pbox_new w pv0
  have s1 := World.size_alloc w (.cells #[.slice none 0 0, .slice none 0 0] 26)
  obtain ⟨w1, hw1⟩ : ∃ w1, w.alloc (.cells #[.slice none 0 0, .slice none 0 0] 26) = w1 := ⟨_, rfl⟩
  rw [hw1] at b1 x1 s1
  have b2 := below_new w1 (.cells #[.slice none 0 0, .slice none 0 0] 26)
  have x2 := heap_alloc_new w1 (.cells #[.slice none 0 0, .slice none 0 0] 26)
  have s2 := World.size_alloc w1 (.cells #[.slice none 0 0, .slice none 0 0] 26)
  obtain ⟨w2, hw2⟩ : ∃ w2, w1.alloc (.cells #[.slice none 0 0, .slice none 0 0] 26) = w2 := ⟨_, rfl⟩
  obtain ⟨g3, hg3⟩ : ∃ g3, w1.heap.size = g3 := ⟨_, rfl⟩
  rw [hw2] at b2 x2 s2
  rw [hg3] at x2 s2
  have HX : Hid (PBox w1 w.heap.size pv0 ∧ Below w.heap.size w w1 ∧ RSrc w1 ao n c D ∧ w1.heap.size = g3 ∧ w.heap.size < g3) := ⟨x1, b1, hS.below b1, hg3, by omega⟩
  have HR0 : Hid (RO w1 w2 g3 none 0 0 []) := ⟨⟨World.ownsRow_nil _ _ _ _, hg3 ▸ b2, by omega, by omega⟩, x2, rfl⟩
  have HD : Hid (D.length = n) := hS.len
  clear b1 b2 x1 x2 hS s1 s2
  go_enter Tryz.func26, Tryz.ntmps26
  go_wp2_with fail
  clear hw1 hw2 hg3
  go_loopw [4] (fun i wr => ∃ (k : Nat) (ap : Option Addr) (cp : Nat), k ≤ n ∧ i = .int .i64 (k : Int) ∧ Hid (RO w1 wr g3 ap k cp ((D.take k).map spOf))) (fun i _ => n - (intOf i).toNat)
  case atStart => exact ⟨0, none, 0, Nat.zero_le _, rfl, HR0⟩
  case round =>
    obtain ⟨k, ap, cp, hk, rfl, HI⟩ := hrel
    rename World => wr
    clear HR0
    by_cases hlt : k < n
    · have hlti : (k : Int) < (n : Int) := by omega
      obtain ⟨ad, hao, A0⟩ : ∃ ad, ao = some ad ∧ RnAt w1 (ad.add (k * 2)) (D.getD k rn0) := by
        cases ao with
        | none => have := (HX.out.2.2.1.nil rfl).1; omega
        | some ad => exact ⟨ad, rfl, HX.out.2.2.1.cell ad rfl k hlt⟩
      subst hao
      obtain ⟨d, hd⟩ : ∃ d, D.getD k rn0 = d := ⟨_, rfl⟩
      rw [hd] at A0
      have hlb : (ad.add (k * 2)).block < w1.heap.size := World.block_lt_of_cell? _ _ A0.c0
      obtain ⟨q0, q1⟩ := rnat_fields A0
      have HT : Hid ((D.take (k + 1)).map spOf = (D.take k).map spOf ++ [spOf d]) := by
        show _ = _
        rw [List.take_add_one, ← hd, List.getD_eq_getElem?_getD, List.getElem?_eq_getElem (by have := HD.out; omega), List.map_append]
        rfl
      obtain ⟨acc, hacc⟩ : ∃ acc, (D.take k).map spOf = acc := ⟨_, rfl⟩
      rw [hacc] at HI HT
      obtain ⟨lo, hi⟩ := d
      dsimp only at q0 q1
      have HSW : Hid (∀ W : World, (∀ j, j < w1.heap.size → W.heap[j]? = w1.heap[j]?) → W.cell? (ad.add (k * 2)) = some (.int .i64 lo) ∧ W.cell? ⟨(ad.add (k * 2)).block, (ad.add (k * 2)).off, none⟩ = some (.int .i64 lo) ∧ W.cell? ⟨(ad.add (k * 2)).block, (ad.add (k * 2)).off + 1, none⟩ = some (.int .i64 hi)) := fun W e =>
        ⟨(World.cell?_of_block (e _ hlb)).trans A0.c0, (by rw [← q0]; simp only [World.cell?, e _ hlb]), (by rw [← q1]; simp only [World.cell?, e _ hlb])⟩
      have Hw1 : Hid (w1.heap.size = g3) := HX.out.2.2.2.1
      have HSr : Hid (∀ j, j < w1.heap.size → wr.heap[j]? = w1.heap[j]?) := fun j hj => HI.out.own.below.block j (by have := Hw1.out; omega)
      have Hrg : Hid (g3 < wr.heap.size) := by show _ < _; have := HI.out.own.hB; omega
      have y1 : wr.drew.cell? ⟨g3, 1, none⟩ = some (.slice ap k cp) := (box2 HI.out.box).2.1
      have y2 : (wr.drew.alloc (.cells #[.int .i64 lo, .int .i64 hi, .int .i64 hi] 55)).cell? ⟨g3, 1, none⟩ = some (.slice ap k cp) := ((below_new wr.drew _).cell (p := ⟨g3, 1, none⟩) Hrg.out).trans y1
      have y3 : (wr.alloc (.cells #[.int .i64 lo, .int .i64 hi, .int .i64 hi] 55)).cell? ⟨g3, 1, none⟩ = some (.slice ap k cp) := y2
      have HLN : Hid (acc.length < 5864062014805) := by show _ < _; rw [HI.out.len]; omega
      have Hlt := hide hlt
      have HK1 : Hid (∀ j, j < w1.heap.size → (wr.drew.alloc (.cells #[.int .i64 lo, .int .i64 hi, .int .i64 hi] 55)).heap[j]? = w1.heap[j]?) := fun j hj => (Below.heap_alloc wr.drew _ j (show j < wr.heap.size by have := Hw1.out; have := Hrg.out; omega)).trans (HSr.out j hj)
      clear A0 q0 q1 hlb hd hacc hlt hk
      go_upto_region 5 with fail
      refine wp_region_held_drew (S := fun W => W.cell? (ad.add (k * 2)) = some (.int .i64 lo) ∧ W.cell? ⟨(ad.add (k * 2)).block, (ad.add (k * 2)).off, none⟩ = some (.int .i64 lo) ∧ W.cell? ⟨(ad.add (k * 2)).block, (ad.add (k * 2)).off + 1, none⟩ = some (.int .i64 hi)) (by kernel_rfl) (HSW.out _ HSr.out) (fun hHeld => ?_)
      refine wpAnyH_take (i := 0) (oi := { dst := some 11, op := Op.fieldAddr 26 (Operand.tmp 3) 1, type := 0, pos := "ref.go:178", after := #[], guard := none }) (v := ?_) rfl (by kernel_rfl) (by kernel_rfl) (by kernel_rfl) (fun _ _ _ h => h) (Or.inl ⟨by rfl, ?_⟩) (by assumption) ?_
      rotate_left
      · (intro w hSw; (try dsimp only at hSw); go_simp); first | done | with_reducible rfl
      simp only [Act.put, List.setIfInBounds_toArray, List.set_cons_zero, List.set_cons_succ]
      refine wpAnyH_take (i := 2) (oi := { dst := some 13, op := Op.move (Operand.tmp 0), type := 51, pos := "ref.go:178", after := #[], guard := none }) (v := ?_) rfl (by kernel_rfl) (by kernel_rfl) (by kernel_rfl) (fun _ _ _ h => h) (Or.inl ⟨by rfl, ?_⟩) (by assumption) ?_
      rotate_left
      · (intro w hSw; (try dsimp only at hSw); go_simp); first | done | with_reducible rfl
      simp only [Act.put, List.setIfInBounds_toArray, List.set_cons_zero, List.set_cons_succ]
      refine wpAnyH_take (i := 3) (oi := { dst := some 14, op := Op.move (Operand.tmp 4), type := 3, pos := "ref.go:178", after := #[], guard := none }) (v := ?_) rfl (by kernel_rfl) (by kernel_rfl) (by kernel_rfl) (fun _ _ _ h => h) (Or.inl ⟨by rfl, ?_⟩) (by assumption) ?_
      rotate_left
      · (intro w hSw; (try dsimp only at hSw); go_simp); first | done | with_reducible rfl
      simp only [Act.put, List.setIfInBounds_toArray, List.set_cons_zero, List.set_cons_succ]
      refine wpAnyH_take (i := 4) (oi := { dst := some 15, op := Op.indexAddr 51 (Operand.tmp 13) (Operand.tmp 14), type := 0, pos := "ref.go:178", after := #[{ on := 2, ground := Ground.data }, { on := 3, ground := Ground.data }], guard := none }) (v := ?_) rfl (by kernel_rfl) (by kernel_rfl) (by kernel_rfl) (fun _ _ _ h => h) (Or.inl ⟨by rfl, ?_⟩) (by assumption) ?_
      rotate_left
      · (intro w hSw; (try dsimp only at hSw); go_simp); first | done | with_reducible rfl
      simp only [Act.put, List.setIfInBounds_toArray, List.set_cons_zero, List.set_cons_succ]
      refine wpAnyH_take (i := 5) (oi := { dst := some 16, op := Op.fieldAddr 28 (Operand.tmp 15) 0, type := 0, pos := "ref.go:178", after := #[{ on := 4, ground := Ground.data }], guard := none }) (v := ?_) rfl (by kernel_rfl) (by kernel_rfl) (by kernel_rfl) (fun _ _ _ h => h) (Or.inl ⟨by rfl, ?_⟩) (by assumption) ?_
      rotate_left
      · (intro w hSw; (try dsimp only at hSw); go_simp); first | done | with_reducible rfl
      simp only [Act.put, List.setIfInBounds_toArray, List.set_cons_zero, List.set_cons_succ]
      refine wpAnyH_take (i := 6) (oi := { dst := some 17, op := Op.load 3 (Operand.tmp 16), type := 3, pos := "ref.go:178", after := #[{ on := 5, ground := Ground.data }], guard := none }) (v := ?_) rfl (by kernel_rfl) (by kernel_rfl) (by kernel_rfl) (fun _ _ _ h => h) (Or.inl ⟨by rfl, ?_⟩) (by assumption) ?_
      rotate_left
      · (intro w hSw; (try dsimp only at hSw); go_simp); first | done | with_reducible rfl
      simp only [Act.put, List.setIfInBounds_toArray, List.set_cons_zero, List.set_cons_succ]
      refine wpAnyH_take (i := 7) (oi := { dst := some 18, op := Op.move (Operand.tmp 0), type := 51, pos := "ref.go:178", after := #[], guard := none }) (v := ?_) rfl (by kernel_rfl) (by kernel_rfl) (by kernel_rfl) (fun _ _ _ h => h) (Or.inl ⟨by rfl, ?_⟩) (by assumption) ?_
      rotate_left
      · (intro w hSw; (try dsimp only at hSw); go_simp); first | done | with_reducible rfl
      simp only [Act.put, List.setIfInBounds_toArray, List.set_cons_zero, List.set_cons_succ]
      refine wpAnyH_take (i := 8) (oi := { dst := some 19, op := Op.move (Operand.tmp 4), type := 3, pos := "ref.go:178", after := #[], guard := none }) (v := ?_) rfl (by kernel_rfl) (by kernel_rfl) (by kernel_rfl) (fun _ _ _ h => h) (Or.inl ⟨by rfl, ?_⟩) (by assumption) ?_
      rotate_left
      · (intro w hSw; (try dsimp only at hSw); go_simp); first | done | with_reducible rfl
      simp only [Act.put, List.setIfInBounds_toArray, List.set_cons_zero, List.set_cons_succ]
      refine wpAnyH_take (i := 9) (oi := { dst := some 20, op := Op.indexAddr 51 (Operand.tmp 18) (Operand.tmp 19), type := 0, pos := "ref.go:178", after := #[{ on := 7, ground := Ground.data }, { on := 8, ground := Ground.data }], guard := none }) (v := ?_) rfl (by kernel_rfl) (by kernel_rfl) (by kernel_rfl) (fun _ _ _ h => h) (Or.inl ⟨by rfl, ?_⟩) (by assumption) ?_
      rotate_left
      · (intro w hSw; (try dsimp only at hSw); go_simp); first | done | with_reducible rfl
      simp only [Act.put, List.setIfInBounds_toArray, List.set_cons_zero, List.set_cons_succ]
      refine wpAnyH_take (i := 10) (oi := { dst := some 21, op := Op.fieldAddr 28 (Operand.tmp 20) 1, type := 0, pos := "ref.go:178", after := #[{ on := 9, ground := Ground.data }], guard := none }) (v := ?_) rfl (by kernel_rfl) (by kernel_rfl) (by kernel_rfl) (fun _ _ _ h => h) (Or.inl ⟨by rfl, ?_⟩) (by assumption) ?_
      rotate_left
      · (intro w hSw; (try dsimp only at hSw); go_simp); first | done | with_reducible rfl
      simp only [Act.put, List.setIfInBounds_toArray, List.set_cons_zero, List.set_cons_succ]
      refine wpAnyH_take (i := 11) (oi := { dst := some 22, op := Op.load 3 (Operand.tmp 21), type := 3, pos := "ref.go:178", after := #[{ on := 10, ground := Ground.data }], guard := none }) (v := ?_) rfl (by kernel_rfl) (by kernel_rfl) (by kernel_rfl) (fun _ _ _ h => h) (Or.inl ⟨by rfl, ?_⟩) (by assumption) ?_
      rotate_left
      · (intro w hSw; (try dsimp only at hSw); go_simp); first | done | with_reducible rfl
      simp only [Act.put, List.setIfInBounds_toArray, List.set_cons_zero, List.set_cons_succ]
      refine wpAnyH_take (i := 12) (oi := { dst := some 23, op := Op.move (Operand.tmp 0), type := 51, pos := "ref.go:178", after := #[], guard := none }) (v := ?_) rfl (by kernel_rfl) (by kernel_rfl) (by kernel_rfl) (fun _ _ _ h => h) (Or.inl ⟨by rfl, ?_⟩) (by assumption) ?_
      rotate_left
      · (intro w hSw; (try dsimp only at hSw); go_simp); first | done | with_reducible rfl
      simp only [Act.put, List.setIfInBounds_toArray, List.set_cons_zero, List.set_cons_succ]
      refine wpAnyH_take (i := 13) (oi := { dst := some 24, op := Op.move (Operand.tmp 4), type := 3, pos := "ref.go:178", after := #[], guard := none }) (v := ?_) rfl (by kernel_rfl) (by kernel_rfl) (by kernel_rfl) (fun _ _ _ h => h) (Or.inl ⟨by rfl, ?_⟩) (by assumption) ?_
      rotate_left
      · (intro w hSw; (try dsimp only at hSw); go_simp); first | done | with_reducible rfl
      simp only [Act.put, List.setIfInBounds_toArray, List.set_cons_zero, List.set_cons_succ]
      refine wpAnyH_take (i := 14) (oi := { dst := some 25, op := Op.indexAddr 51 (Operand.tmp 23) (Operand.tmp 24), type := 0, pos := "ref.go:178", after := #[{ on := 12, ground := Ground.data }, { on := 13, ground := Ground.data }], guard := none }) (v := ?_) rfl (by kernel_rfl) (by kernel_rfl) (by kernel_rfl) (fun _ _ _ h => h) (Or.inl ⟨by rfl, ?_⟩) (by assumption) ?_
      rotate_left
      · (intro w hSw; (try dsimp only at hSw); go_simp); first | done | with_reducible rfl
      simp only [Act.put, List.setIfInBounds_toArray, List.set_cons_zero, List.set_cons_succ]
      refine wpAnyH_take (i := 15) (oi := { dst := some 26, op := Op.fieldAddr 28 (Operand.tmp 25) 1, type := 0, pos := "ref.go:178", after := #[{ on := 14, ground := Ground.data }], guard := none }) (v := ?_) rfl (by kernel_rfl) (by kernel_rfl) (by kernel_rfl) (fun _ _ _ h => h) (Or.inl ⟨by rfl, ?_⟩) (by assumption) ?_
      rotate_left
      · (intro w hSw; (try dsimp only at hSw); go_simp); first | done | with_reducible rfl
      simp only [Act.put, List.setIfInBounds_toArray, List.set_cons_zero, List.set_cons_succ]
      refine wpAnyH_take (i := 16) (oi := { dst := some 27, op := Op.load 3 (Operand.tmp 26), type := 3, pos := "ref.go:178", after := #[{ on := 15, ground := Ground.data }], guard := none }) (v := ?_) rfl (by kernel_rfl) (by kernel_rfl) (by kernel_rfl) (fun _ _ _ h => h) (Or.inl ⟨by rfl, ?_⟩) (by assumption) ?_
      rotate_left
      · (intro w hSw; (try dsimp only at hSw); go_simp); first | done | with_reducible rfl
      simp only [Act.put, List.setIfInBounds_toArray, List.set_cons_zero, List.set_cons_succ]
      refine wpAnyH_take (i := 17) (oi := { dst := some 28, op := Op.build 55 #[(0, Operand.tmp 17), (1, Operand.tmp 22), (2, Operand.tmp 27)], type := 55, pos := "ref.go:178", after := #[{ on := 6, ground := Ground.data }, { on := 11, ground := Ground.data }, { on := 16, ground := Ground.data }], guard := none }) (v := ?_) rfl (by kernel_rfl) (by kernel_rfl) (by kernel_rfl) (fun _ _ _ h => h) (Or.inl ⟨by rfl, ?_⟩) (by assumption) ?_
      rotate_left
      · (intro w hSw; (try dsimp only at hSw); go_simp); first | done | with_reducible rfl
      simp only [Act.put, List.setIfInBounds_toArray, List.set_cons_zero, List.set_cons_succ]
      refine wpAnyH_ready (rs := [1, 18]) (by kernel_rfl) (by simp) ?_
      refine AllReadyH.cons rfl (fun K hK => ?_) ?_
      · go_simp
        refine hK.out _ _ (HSW.out _ HSr.out) (fun hHeld => ?_)
        clear hK K
        refine wpAnyH_ready (rs := [18]) (by kernel_rfl) (by simp) ?_
        refine AllReadyH.cons rfl (fun K hK => ?_) ?_
        rotate_left
        · exact AllReadyH.nil
        go_simp
        refine hK.out _ _ (HSW.out _ HK1.out) (fun hHeld => ?_)
        clear hK K
        refine wpAnyH_ready (rs := [19]) (by kernel_rfl) (by simp) ?_
        refine AllReadyH.cons rfl (fun K hK => ?_) ?_
        rotate_left
        · exact AllReadyH.nil
        refine HI.out.own.step (spOf ⟨lo, hi⟩) _ (by rfl) HLN.out (by rfl) (.tmp 12) (.tmp 29) (by rfl) k HI.out.len (by rfl) _ (by rfl) (by rfl) ?_
        intro g6 c6 w9 O6 h6
        have e9 : w9.heap[g3]? = wr.heap[g3]? := h6 g3 Hrg.out HI.out.blk
        have f9 := (box2 (e9.trans HI.out.box)).2.2 1
        have d9 := (box2 (e9.trans HI.out.box)).2.1
        have HP := hide (HI.out.push O6 e9)
        have HK2 : Hid (∀ j, j < w1.heap.size → w9.heap[j]? = w1.heap[j]?) := fun j hj => O6.below.block j (by have := Hw1.out; omega)
        have HK3 : Hid (∀ j, j < w1.heap.size → (w9.setCell ⟨g3, 1, none⟩ (.slice (some ⟨g6, 0, none⟩) (k + 1) c6)).heap[j]? = w1.heap[j]?) := fun j hj => HP.out.own.below.block j (by have := Hw1.out; omega)
        refine hK.out _ _ (HSW.out _ HK2.out) (fun hHeld => ?_)
        clear hK K
        refine wpAnyH_take (i := 20) (oi := { dst := some 31, op := Op.fieldAddr 26 (Operand.tmp 3) 1, type := 0, pos := "ref.go:178", after := #[{ on := 0, ground := Ground.phase }, { on := 1, ground := Ground.phase }, { on := 2, ground := Ground.phase }, { on := 3, ground := Ground.phase }, { on := 4, ground := Ground.phase }, { on := 5, ground := Ground.phase }, { on := 6, ground := Ground.phase }, { on := 7, ground := Ground.phase }, { on := 8, ground := Ground.phase }, { on := 9, ground := Ground.phase }, { on := 10, ground := Ground.phase }, { on := 11, ground := Ground.phase }, { on := 12, ground := Ground.phase }, { on := 13, ground := Ground.phase }, { on := 14, ground := Ground.phase }, { on := 15, ground := Ground.phase }, { on := 16, ground := Ground.phase }, { on := 17, ground := Ground.phase }, { on := 18, ground := Ground.phase }, { on := 19, ground := Ground.phase }], guard := none }) (v := ?_) rfl (by kernel_rfl) (by kernel_rfl) (by kernel_rfl) (fun _ _ _ h => h) (Or.inl ⟨by rfl, ?_⟩) (by assumption) ?_
        rotate_left
        · (intro w hSw; (try dsimp only at hSw); go_simp); first | done | with_reducible rfl
        simp only [Act.put, List.setIfInBounds_toArray]
        refine wpAnyH_ready (rs := [21]) (by kernel_rfl) (by simp) ?_
        refine AllReadyH.cons rfl (fun K hK => ?_) ?_
        rotate_left
        · exact AllReadyH.nil
        go_simp
        refine hK.out _ _ (HSW.out _ HK3.out) (fun hHeld => ?_)
        clear hK K
        refine wpAnyH_done (by kernel_rfl) ?_ _
        clear hHeld
        clear O6 h6 e9 f9 d9
        go_wp2_with fail
        go_roundw
        case rel => exact ⟨k + 1, some ⟨g6, 0, none⟩, c6, Hlt.out, by simp, by rw [HT.out]; exact HP⟩
        case measure => simp [intOf]; have := Hlt.out; omega
      · refine AllReadyH.cons rfl (fun K hK => ?_) ?_
        rotate_left
        · exact AllReadyH.nil
        go_simp
        refine hK.out _ _ (HSW.out _ HK1.out) (fun hHeld => ?_)
        clear hK K
        refine wpAnyH_ready (rs := [1]) (by kernel_rfl) (by simp) ?_
        refine AllReadyH.cons rfl (fun K hK => ?_) ?_
        rotate_left
        · exact AllReadyH.nil
        go_simp
        refine hK.out _ _ (HSW.out _ HK1.out) (fun hHeld => ?_)
        clear hK K
        refine wpAnyH_ready (rs := [19]) (by kernel_rfl) (by simp) ?_
        refine AllReadyH.cons rfl (fun K hK => ?_) ?_
        rotate_left
        · exact AllReadyH.nil
        refine HI.out.own.step (spOf ⟨lo, hi⟩) _ (by rfl) HLN.out (by rfl) (.tmp 12) (.tmp 29) (by rfl) k HI.out.len (by rfl) _ (by rfl) (by rfl) ?_
        intro g6 c6 w9 O6 h6
        have e9 : w9.heap[g3]? = wr.heap[g3]? := h6 g3 Hrg.out HI.out.blk
        have f9 := (box2 (e9.trans HI.out.box)).2.2 1
        have d9 := (box2 (e9.trans HI.out.box)).2.1
        have HP := hide (HI.out.push O6 e9)
        have HK2 : Hid (∀ j, j < w1.heap.size → w9.heap[j]? = w1.heap[j]?) := fun j hj => O6.below.block j (by have := Hw1.out; omega)
        have HK3 : Hid (∀ j, j < w1.heap.size → (w9.setCell ⟨g3, 1, none⟩ (.slice (some ⟨g6, 0, none⟩) (k + 1) c6)).heap[j]? = w1.heap[j]?) := fun j hj => HP.out.own.below.block j (by have := Hw1.out; omega)
        refine hK.out _ _ (HSW.out _ HK2.out) (fun hHeld => ?_)
        clear hK K
        refine wpAnyH_take (i := 20) (oi := { dst := some 31, op := Op.fieldAddr 26 (Operand.tmp 3) 1, type := 0, pos := "ref.go:178", after := #[{ on := 0, ground := Ground.phase }, { on := 1, ground := Ground.phase }, { on := 2, ground := Ground.phase }, { on := 3, ground := Ground.phase }, { on := 4, ground := Ground.phase }, { on := 5, ground := Ground.phase }, { on := 6, ground := Ground.phase }, { on := 7, ground := Ground.phase }, { on := 8, ground := Ground.phase }, { on := 9, ground := Ground.phase }, { on := 10, ground := Ground.phase }, { on := 11, ground := Ground.phase }, { on := 12, ground := Ground.phase }, { on := 13, ground := Ground.phase }, { on := 14, ground := Ground.phase }, { on := 15, ground := Ground.phase }, { on := 16, ground := Ground.phase }, { on := 17, ground := Ground.phase }, { on := 18, ground := Ground.phase }, { on := 19, ground := Ground.phase }], guard := none }) (v := ?_) rfl (by kernel_rfl) (by kernel_rfl) (by kernel_rfl) (fun _ _ _ h => h) (Or.inl ⟨by rfl, ?_⟩) (by assumption) ?_
        rotate_left
        · (intro w hSw; (try dsimp only at hSw); go_simp); first | done | with_reducible rfl
        simp only [Act.put, List.setIfInBounds_toArray]
        refine wpAnyH_ready (rs := [21]) (by kernel_rfl) (by simp) ?_
        refine AllReadyH.cons rfl (fun K hK => ?_) ?_
        rotate_left
        · exact AllReadyH.nil
        go_simp
        refine hK.out _ _ (HSW.out _ HK3.out) (fun hHeld => ?_)
        clear hK K
        refine wpAnyH_done (by kernel_rfl) ?_ _
        clear hHeld
        clear O6 h6 e9 f9 d9
        go_wp2_with fail
        go_roundw
        case rel => exact ⟨k + 1, some ⟨g6, 0, none⟩, c6, Hlt.out, by simp, by rw [HT.out]; exact HP⟩
        case measure => simp [intOf]; have := Hlt.out; omega
    · have hlti : ¬ (k : Int) < (n : Int) := by omega
      obtain rfl : k = n := by omega
      obtain ⟨pq, hpq⟩ : ∃ pq : Pv, (⟨none, 0, 0, ap, k, cp, ⟨[], D.map spOf⟩⟩ : Pv) = pq := ⟨_, rfl⟩
      have hacc : (D.take k).map spOf = D.map spOf := by rw [List.take_of_length_le (by have := HD.out; omega)]
      rw [hacc] at HI
      have hl := HI.out.len
      have HPS : Hid (PSrc wr pq) := by
        rw [← hpq]
        have h1 := (HI.out.own.src (by rw [hl]; omega)).1
        rw [hl] at h1
        exact ⟨⟨rfl, fun _ => ⟨rfl, rfl⟩, fun ad h => by cases h⟩, h1, by simp⟩
      have l9 : (ldP (.pointer (some ⟨g3, 0, none⟩))).run Tryz.prog wr = .ok (PV pq) wr := by
        rw [← hpq]
        exact run_ldP (PBox.at (p := ⟨none, 0, 0, ap, k, cp, ⟨[], D.map spOf⟩⟩) HI.out.box)
      have HP : Hid (pq.P = ⟨[], D.map spOf⟩) := by show _ = _; rw [← hpq]
      have hb3 := HI.out.own.below
      have hX := HX.out
      have HB : Hid (PBox wr w.heap.size pv0 ∧ Below w.heap.size w wr ∧ w.heap.size + 1 ≤ wr.heap.size) := ⟨(hb3.block _ hX.2.2.2.2).trans hX.1, hX.2.1.trans (hb3.mono (by omega)), by have := HI.out.own.hB; omega⟩
      clear hpq hacc hl hb3 hX hlt
      go_wp2_with fail
      refine (refNorm_any pq _ HPS.out).mono ?_
      rintro e w8 ⟨p, rfl, S2, n2, b2, c2'⟩
      obtain ⟨s1, e1, e2, e3, e4⟩ := past_end (w := w) (HB.out.1.below b2) S2 (n2.mono (by have := HB.out.2.2; omega)) (HB.out.2.1.trans (b2.mono HB.out.2.1.size)) (Nat.le_refl _)
      have HE1 := hide e1
      have HE2 : Hid (GivesP w (w8.setRow w.heap.size (PC p)) (.returned (PV p)) (CanonOf (dotsG D))) := ⟨p, rfl, e2, e3, e4, canonOf_mem (HP.out ▸ c2') (fun r hr n => runs_dots D r hr n)⟩
      clear S2 n2 b2 c2' e1 e2 e3 e4 l9
      go_wp2_with fail
      exact bodyPost_ret (v := PV p) (resP Tryz.results26 rfl HE1.out) rfl HE2.out
end Go.Proofs.YtooinnhjeloocaaGreat
namespace Go.Proofs.YtooinnhjeloocaaGreat
open Go.RowKit
attribute [local go_sem ↓] ldP_eq stP_eq ldD_eq stD_eq K.ld28_eq K.st28_eq
attribute [local go_sem] cells_PV PC_size
variable {w w' w2 W W' : World} {g : Nat}

theorem addr_lit {e : K.En} {p : Addr} (h : K.EnAt W p e) : p = ⟨p.block, p.off, none⟩ := by
  have hs := World.cell?_spot h.c0
  obtain ⟨b, o, k⟩ := p
  obtain rfl : k = none := hs
  rfl
set_option maxRecDepth 100000 in
set_option maxHeartbeats 3200000 in
theorem refDots_any (ao : Option Addr) (n cap : Nat) (L : List K.En) (w : World) (hS : K.ESrc w ao n cap L) : Calls Tryz.prog 13 #[.slice ao n cap] w fun x w' => DtA w w' x L := by
  have b1 := below_new w (.cells #[.slice none 0 0, .slice none 0 0] 26)
  have x1 : PBox (w.alloc (.cells #[.slice none 0 0, .slice none 0 0] 26)) w.heap.size pv0 := pbox_new w pv0
  obtain ⟨w1, hw1⟩ : ∃ w1, w.alloc (.cells #[.slice none 0 0, .slice none 0 0] 26) = w1 := ⟨_, rfl⟩
  obtain ⟨g1, hg1⟩ : ∃ g1, w.heap.size = g1 := ⟨_, rfl⟩
  rw [hw1] at b1 x1
  rw [hg1] at x1
  have HX : Hid (PBox w1 g1 pv0 ∧ K.ESrc w1 ao n cap L ∧ Below w.heap.size w w1 ∧ w.heap.size = g1) := ⟨x1, hS.below b1, b1, hg1⟩
  have HL : Hid (L.length = n ∧ n ≤ 3518437208883) := ⟨hS.1, hS.2.2.2.2⟩
  have hnb := HL.out.2
  clear b1 x1 hS
  go_enter Tryz.func13, Tryz.ntmps13
  go_wp2_with fail
  clear hw1 hg1
  refine (K.refCheckL_any ao n cap L _ HX.out.2.1).mono ?_
  rintro x w2 ⟨rfl, b2⟩
  have HB2 := hide (HX.out.2.2.1.trans (b2.mono HX.out.2.2.1.size))
  have HX2 : Hid (PBox w2 g1 pv0 ∧ K.ESrc w2 ao n cap L ∧ w.heap.size = g1) := ⟨HX.out.1.below b2, HX.out.2.1.below b2, HX.out.2.2.2⟩
  clear b2 HX
  rcases K.chk_cases L with hc | hc
  rotate_left
  · have HE : Hid (DtA w (w2.setRow g1 (PC pv0)) (.returned (.tuple #[PV pv0, .int .i64 1])) L) := ⟨below_setRow HB2.out (by have := HX2.out.2.2; omega), .inr ⟨by rw [hc]; decide, rfl⟩⟩
    have t6 : (stP (.pointer (some ⟨g1, 0, none⟩)) (.agg #[.slice none 0 0, .slice none 0 0])).run Tryz.prog w2 = .ok () (w2.setRow g1 (PC pv0)) := run_stP (p' := pv0) HX2.out.1
    have HX0 : Hid (PBox (w2.setRow g1 (PC pv0)) g1 pv0) := setRow_heap _ _ _ _ _ _ HX2.out.1
    rw [hc]
    clear hc
    go_wp2_with fail
    refine bodyPost_ret (res2Pn rfl rfl rfl HX0.out) rfl ?_
    exact HE.out
  · rw [hc]
    have HC := hide hc
    clear hc
    go_wp2_with fail
    go_loopw [4, 5] (fun v i wr => ∃ (k : Nat) (ap : Option Addr) (c : Nat), k ≤ n ∧ v = .slice ap k c ∧ i = .int .i64 (k : Int) ∧ Hid (OwnD w2.heap.size w2.heap.size w2 wr ap c ((L.take k).map dotOf))) (fun _ i _ => n - (intOf i).toNat)
    case atStart => exact ⟨0, none, 0, Nat.zero_le _, rfl, rfl, World.ownsRow_nil _ _ _ _, Below.refl _ _, Nat.le_refl _, Nat.le_refl _⟩
    case round =>
      obtain ⟨k, ap, c, hk, rfl, rfl, HO⟩ := hrel
      rename World => wr
      obtain ⟨acc, Hacc⟩ : ∃ acc, Hid ((L.take k).map dotOf = acc) := ⟨_, rfl⟩
      have Hal : Hid (acc.length = k) := by show _ = _; rw [← Hacc.out, List.length_map, List.length_take]; have := HL.out.1; omega
      rw [Hacc.out] at HO
      by_cases hlt : k < n
      · have hlti : (k : Int) < (n : Int) := by omega
        obtain ⟨ad, hao, A0⟩ := (HX2.out.2.1.below HO.out.below).at k hlt
        subst hao
        obtain ⟨e, He⟩ : ∃ e, Hid (L.getD k K.en0 = e) := ⟨_, rfl⟩
        rw [He.out] at A0
        have HT := hide (K.take_snoc L k (by rw [HL.out.1]; exact hlt))
        rw [He.out] at HT
        have HN : Hid ((L.take (k + 1)).map dotOf = acc ++ [dotOf e]) := by show _ = _; rw [HT.out, List.map_append, Hacc.out]; rfl
        have l7 : (ldD (.pointer (some (ad.add (k * 4))))).run Tryz.prog wr = .ok (.agg #[.int .i64 e.rep, .int .i64 e.num]) wr := run_ldD (enAt_dot A0)
        have l8 : (ldD (.pointer (some ⟨(ad.add (k * 4)).block, (ad.add (k * 4)).off, none⟩))).run Tryz.prog wr = .ok (.agg #[.int .i64 e.rep, .int .i64 e.num]) wr := by rw [← addr_lit A0]; exact l7
        have Hlt := hide hlt
        clear A0 hlt
        go_wp2_with (at_builtin; go_loud (refine (HO.out.later (below_new wr _)).appendS [dotOf e] (some ⟨wr.heap.size, 0, none⟩) 1 1 (lit_rsrc wr [dotOf e] _ rfl 28 1 rfl (by omega)) (by have := Hal.out; have := Hlt.out; omega) rfl (.tmp 16) (.tmp 22) rfl k Hal.out rfl rfl ?_); intro ao8 c8 w8 O8; have HO8 := hide O8; clear O8)
        clear l7 l8
        go_roundw
        case rel => exact ⟨k + 1, ao8, c8, Hlt.out, rfl, by simp, by show OwnD _ _ _ _ _ _ _; rw [HN.out]; exact HO8.out⟩
        case measure => simp [intOf]; have := Hlt.out; omega
      · have hlti : ¬ (k : Int) < (n : Int) := by omega
        obtain rfl : k = n := by omega
        have HAc : Hid (acc = L.map dotOf) := by show _ = _; rw [← Hacc.out, List.take_of_length_le (by have := HL.out.1; omega)]
        obtain ⟨hsr, hnw⟩ := HO.out.src (by have := Hal.out; omega)
        have hsr2 : RSrc wr ap k c acc := by have := Hal.out; rw [this] at hsr; exact hsr
        have HC7 := hide (refOf_any ap k c acc wr hsr2 (by omega))
        have HBr := hide (HB2.out.trans (HO.out.below.mono HB2.out.size))
        have HXr := hide (HX2.out.1.below HO.out.below)
        have HG : Hid (w.heap.size = g1 ∧ g1 < wr.heap.size) := ⟨HX2.out.2.2, HXr.out.lt⟩
        clear hsr hnw hsr2
        go_wp2_with fail
        refine HC7.out.mono ?_
        rintro x w8 ⟨p, rfl, S8, n8, b8, c8⟩
        have X8 := HXr.out.below b8
        have t8 := run_stP (p' := p) X8
        have HX8 : Hid (PBox (w8.setRow g1 (PC p)) g1 p) := setRow_heap _ _ _ _ _ _ X8
        have HE : Hid (DtA w (w8.setRow g1 (PC p)) (.returned (.tuple #[PV p, .int .i64 0])) L) := by
          have hb := HBr.out.trans (b8.mono HBr.out.size)
          refine ⟨below_setRow hb (by have := HG.out; omega), .inl ⟨HC.out, p, rfl, psrc_off S8 (fun ad h => setRow_other _ _ _ _ (by have := n8.1 ad h; have := HG.out; omega)) (fun ad h => setRow_other _ _ _ _ (by have := n8.2 ad h; have := HG.out; omega)), n8.mono (by have := HG.out; omega), by rw [← HAc.out]; exact c8⟩⟩
        clear S8 n8 b8 c8 X8 HC7
        go_wp2_with fail
        refine bodyPost_ret (res2Pn rfl rfl rfl HX8.out) rfl ?_
        exact HE.out
end Go.Proofs.YtooinnhjeloocaaGreat
