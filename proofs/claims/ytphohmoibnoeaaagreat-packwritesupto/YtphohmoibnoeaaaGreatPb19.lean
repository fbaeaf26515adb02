/- FWp -/
import Derived.Test.YtphohmoibnoeaaaGreatTk
import Derived.Test.YtphohmoibnoeaaaGreatPb18
namespace Go.Proofs.YtphohmoibnoeaaaGreat
open Go.RowKit

structure PW (w0 W : World) (gw : Nat) (ao : Option Addr) (n cap : Nat) (Z : List Int) (F : List (Nat × Obj)) : Prop where
 wk : U.Wk w0 W gw ao n cap Z
 keep : ∀ x ∈ F, W.heap[x.1]? = some x.2 ∧ x.1 ≠ gw ∧ U.blk ao ≠ some x.1
variable {w0 W W' : World} {gw : Nat} {ao : Option Addr} {n cap : Nat} {Z : List Int} {F : List (Nat × Obj)}
theorem PW.lt (h : PW w0 W gw ao n cap Z F) : gw < W.heap.size := h.wk.w.lt
theorem PW.row_lt (h : PW w0 W gw ao n cap Z F) (k : Nat) (e : U.blk ao = some k) : k < W.heap.size := h.wk.w.row.lt k e
theorem PW.below (h : PW w0 W gw ao n cap Z F) (b : Below W.heap.size W W') : PW w0 W' gw ao n cap Z F :=
 ⟨h.wk.below b, fun x hx => ⟨(b.block x.1 (Array.getElem?_eq_some_iff.1 (h.keep x hx).1).1).trans (h.keep x hx).1, (h.keep x hx).2⟩⟩
theorem PW.put (h : PW w0 W gw ao n cap Z F) {Y : List Int} (P : U.Puts W W' gw ao Z Y false) : ∃ bo m cc, PW w0 W' gw bo m cc (Z ++ Y) F := by
 obtain ⟨bo, m, cc, W1, h2, K⟩ := P
 obtain ⟨bo', m', cc', hk⟩ := h.wk.put ⟨bo, m, cc, W1, h2, K⟩
 have e0 := hk.w.c0
 have e1 : W'.cell? ⟨gw, 0, none⟩ = some (.slice bo m cc) := by have := W1.c0; exact this
 rw [e1] at e0
 simp only [Option.some.injEq, Value.slice.injEq] at e0
 obtain ⟨rfl, rfl, rfl⟩ := e0
 refine ⟨_, _, _, hk, fun x hx => ?_⟩
 obtain ⟨a1, a2, a3⟩ := h.keep x hx
 have hl := (Array.getElem?_eq_some_iff.1 a1).1
 refine ⟨(K.block x.1 hl a2 (fun e => a3 e.symm)).trans a1, a2, fun e => ?_⟩
 rcases K.lies with y | y | ⟨j, y, hj⟩
 ·rw [y] at e; cases e
 ·exact a3 (y ▸ e)
 ·rw [y] at e
  have := Option.some.inj e
  omega
theorem PW.add (h : PW w0 W gw ao n cap Z F) (ob : Obj) : PW w0 (W.alloc ob) gw ao n cap Z ((W.heap.size, ob) :: F) := by
 have hb := h.below (U.below_new W ob)
 refine ⟨hb.wk, fun x hx => ?_⟩
 rcases List.mem_cons.1 hx with rfl | hx
 ·exact ⟨heap_alloc_new W ob, (fun e => by have := h.lt; omega), fun e => by have := h.row_lt _ e; omega⟩
 ·exact hb.keep x hx
theorem PW.sub (h : PW w0 W gw ao n cap Z F) {F' : List (Nat × Obj)} (hs : ∀ x ∈ F', x ∈ F) : PW w0 W gw ao n cap Z F' := ⟨h.wk, fun x hx => h.keep x (hs x hx)⟩
theorem PW.turn (h : PW w0 W gw ao n cap Z F) {g : Nat} {o1 o2 : Obj} (h1 : (g, o1) ∈ F) (hg0 : w0.heap.size ≤ g) (K : U.Kg W W' g) (h2 : W'.heap[g]? = some o2) {F' : List (Nat × Obj)} (hF : ∀ x ∈ F', x = (g, o2) ∨ (x ∈ F ∧ x.1 ≠ g)) : PW w0 W' gw ao n cap Z F' := by
 obtain ⟨a1, a2, a3⟩ := h.keep _ h1
 have hw : W'.heap[gw]? = W.heap[gw]? := K.block gw h.lt (fun e => a2 e.symm)
 refine ⟨⟨⟨hw.trans h.wk.w.box, h.wk.w.row.keep (fun k e => K.block k (h.row_lt k e) (fun e2 => a3 (by rw [e, e2]))), h.wk.w.ne, h.wk.w.nil⟩, ⟨K.os.trans h.wk.bel.os, K.tape.trans h.wk.bel.tape, K.output.trans h.wk.bel.output, Nat.le_trans h.wk.bel.size K.size, fun k hk => (K.block k (Nat.lt_of_lt_of_le hk h.wk.bel.size) (by omega)).trans (h.wk.bel.block k hk)⟩, h.wk.ge, h.wk.row⟩, fun x hx => ?_⟩
 rcases hF x hx with rfl | ⟨hx, hne⟩
 ·exact ⟨h2, a2, a3⟩
 ·obtain ⟨b1, b2, b3⟩ := h.keep x hx
  exact ⟨(K.block x.1 (Array.getElem?_eq_some_iff.1 b1).1 hne).trans b1, b2, b3⟩
theorem box_cell {W : World} {g : Nat} {v : Value} {t : TypeId} (h : W.heap[g]? = some (.cells #[v] t)) : W.cell? ⟨g, 0, none⟩ = some v := by simp [World.cell?, h]
set_option maxRecDepth 100000 in
set_option maxHeartbeats 1600000 in
theorem placeG_any (h : PW w0 W gw ao n cap Z F) {gt : Nat} {gap r0 : Int} {T : Nat → Int} (hgap : 1 ≤ gap ∧ gap ≤ 2) (ht : (gt, .cells (TC gap r0 T).toArray 133 (0, 0)) ∈ F) (k : Nat) (hk : k < 16) (num : Int) (h1 : 0 ≤ r0 ∧ r0 ≤ (k : Int)) (h2 : T k + gap ≤ num) (h3 : 0 ≤ T k ∧ T k ≤ 1000000000) (h4 : num ≤ 1000000000) (hn : n ≤ 100000000000000) :
  Calls Tryz.prog 63 #[.agg #[U.ptr gw], U.ptr gt, .int .i64 (k : Int), .int .i64 num] W fun e w' => e = .returned (.tuple #[]) ∧ ∃ bo m cc, PW w0 w' gw bo m cc (Z ++ (nB ((k : Int) - r0) ++ nB (num - (T k + gap)))) F := by
 have HP := hide (h.add (.cells #[U.ptr gw] 68))
 obtain ⟨W1, hW1⟩ : ∃ W1, W.alloc (.cells #[U.ptr gw] 68) = W1 := ⟨_, rfl⟩
 obtain ⟨b4, hb4⟩ : ∃ b4, W.heap.size = b4 := ⟨_, rfl⟩
 rw [hW1, hb4] at HP
 have HM : Hid ((gt, .cells (TC gap r0 T).toArray 133 (0, 0)) ∈ ((b4, Obj.cells #[U.ptr gw] 68) :: F)) := List.mem_cons_of_mem _ ht
 have HC : Hid (∀ V bo m cc Y, PW w0 V gw bo m cc Y ((b4, Obj.cells #[U.ptr gw] 68) :: F) → V.cell? ⟨b4, 0, none⟩ = some (U.ptr gw) ∧ TrB V gt gap r0 T) := fun V bo m cc Y hV => ⟨box_cell (hV.keep _ List.mem_cons_self).1, (hV.keep _ HM.out).1⟩
 have HQ : Hid (n ≤ 100000000000000 ∧ (0 ≤ r0 ∧ r0 ≤ (k : Int)) ∧ T k + gap ≤ num ∧ (0 ≤ T k ∧ T k ≤ 1000000000) ∧ num ≤ 1000000000 ∧ k < 16) := ⟨hn, h1, h2, h3, h4, hk⟩
 have hw1 : IntKind.i64.wrap ((k : Int) - r0) = ((((k : Int) - r0).toNat : Nat) : Int) := by rw [IntKind.wrap_i64]; omega
 have hw2 : IntKind.i64.wrap (num - (T k + gap)) = (((num - (T k + gap)).toNat : Nat) : Int) := by rw [IntKind.wrap_i64]; omega
 obtain ⟨x1, hx1⟩ : ∃ x1, ((k : Int) - r0).toNat = x1 := ⟨_, rfl⟩
 obtain ⟨x2, hx2⟩ : ∃ x2, (num - (T k + gap)).toNat = x2 := ⟨_, rfl⟩
 obtain ⟨tk, htk⟩ : ∃ tk, T k + gap = tk := ⟨_, rfl⟩
 rw [htk] at hw2 hx2
 rw [hx1] at hw1
 rw [hx2] at hw2
 have HB : Hid (x1 ≤ 15 ∧ x2 ≤ 1000000000 ∧ nB ((k : Int) - r0) = U.numB x1 ∧ nB (num - (T k + gap)) = U.numB x2) := ⟨by omega, by omega, by rw [← hx1]; rfl, by rw [htk, ← hx2]; rfl⟩
 rw [HB.out.2.2.1, HB.out.2.2.2]
 have HTK := hide htk
 have HGp := hide hgap
 clear h h1 h2 h3 h4 hn ht hk hx1 hx2 htk
 go_enter Tryz.func63, Tryz.ntmps63
 go_wp2_with fail
 clear hW1
 refine wp_region_held_drew (S := fun v => v.cell? ⟨b4, 0, none⟩ = some (U.ptr gw) ∧ v.cell? ⟨gt, 1, none⟩ = some (.int .i64 r0)) (by kernel_rfl) (⟨(HC.out _ _ _ _ _ (HP.out.below (U.below_drew1 W1))).1, (HC.out _ _ _ _ _ (HP.out.below (U.below_drew1 W1))).2.c1⟩) (fun hHeld => ?_)
 refine wTk 0 ⟨some 8, .fieldAddr 68 (.tmp 4) 0, 0, "writer.go:46", #[], none⟩ rfl ?_
 refine wTk 1 ⟨some 9, .load 66 (.tmp 8), 66, "writer.go:46", #[⟨0, .data⟩], none⟩ rfl ?_
 refine wTk 2 ⟨some 10, .move (.tmp 2), 3, "writer.go:46", #[], none⟩ rfl ?_
 refine wTk 3 ⟨some 11, .move (.tmp 1), 104, "writer.go:46", #[], none⟩ rfl ?_
 refine wTk 4 ⟨some 12, .nilCheck (.tmp 11), 0, "writer.go:46", #[⟨3, .data⟩], none⟩ rfl ?_
 refine wTk 5 ⟨some 13, .fieldAddr 133 (.tmp 12) 1, 0, "writer.go:46", #[⟨4, .data⟩], none⟩ rfl ?_
 refine wTk 6 ⟨some 14, .load 3 (.tmp 13), 3, "writer.go:46", #[⟨5, .data⟩], none⟩ rfl ?_
 refine wTk 7 ⟨some 15, .binOp .sub 3 (.tmp 10) (.tmp 14) 3, 3, "writer.go:46", #[⟨2, .data⟩, ⟨6, .data⟩], none⟩ rfl ?_
 refine wpAnyH_ready (rs := [8]) (by kernel_rfl) (by simp) (.cons rfl (fun K hK => ?_) .nil)
 go_simp
 go_wp2_with fail
 refine (U.wnum_any ao n cap Z false x1 _ (HP.out.below (U.below_drew1 W1)).wk.w (fun e => by cases e) (by have := HB.out; omega) (by have := HQ.out; omega)).mono ?_
 rintro e W2 ⟨rfl, hp2⟩
 obtain ⟨bo, m, cc, P2⟩ := (HP.out.below (U.below_drew1 W1)).put hp2
 have HP2 := hide P2
 refine hK.out _ _ (⟨(HC.out _ _ _ _ _ (P2)).1, (HC.out _ _ _ _ _ (P2)).2.c1⟩) (fun hHeld => ?_)
 clear hK K hp2 P2
 refine wpAnyH_done (by kernel_rfl) ?_ _
 clear hHeld
 go_wp2_with fail
 refine wp_region_held_drew (S := fun v => v.cell? ⟨b4, 0, none⟩ = some (U.ptr gw) ∧ v.cell? ⟨gt, 1, none⟩ = some (.int .i64 r0)) (by kernel_rfl) (⟨(HC.out _ _ _ _ _ (HP2.out.below (U.below_drew1 W2))).1, (HC.out _ _ _ _ _ (HP2.out.below (U.below_drew1 W2))).2.c1⟩) (fun hHeld => ?_)
 refine wTk 0 ⟨some 17, .fieldAddr 68 (.tmp 4) 0, 0, "writer.go:47", #[], none⟩ rfl ?_
 refine wTk 1 ⟨some 18, .load 66 (.tmp 17), 66, "writer.go:47", #[⟨0, .data⟩], none⟩ rfl ?_
 refine wTk 2 ⟨some 19, .move (.tmp 3), 3, "writer.go:47", #[], none⟩ rfl ?_
 refine wTk 3 ⟨some 20, .move (.tmp 1), 104, "writer.go:47", #[], none⟩ rfl ?_
 refine wTk 4 ⟨some 21, .move (.tmp 2), 3, "writer.go:47", #[], none⟩ rfl ?_
 refine wpAnyH_ready (rs := [5]) (by kernel_rfl) (by simp) (.cons rfl (fun K hK => ?_) .nil)
 go_simp
 go_wp2_with fail
 refine (least_any (HC.out _ _ _ _ _ (HP2.out.below (U.below_drew1 W2))).2 k HQ.out.2.2.2.2.2 (by have := HGp.out; omega) HQ.out.2.2.2.1).mono ?_
 rintro e W3 ⟨rfl, b3⟩
 rw [HTK.out]
 have P3 := (HP2.out.below (U.below_drew1 W2)).below b3
 have HP3 := hide P3
 refine hK.out _ _ (⟨(HC.out _ _ _ _ _ (P3)).1, (HC.out _ _ _ _ _ (P3)).2.c1⟩) (fun hHeld => ?_)
 clear hK K b3 P3
 refine wTk 6 ⟨some 23, .binOp .sub 3 (.tmp 19) (.tmp 22) 3, 3, "writer.go:47", #[⟨2, .data⟩, ⟨5, .data⟩], none⟩ rfl ?_
 refine wpAnyH_ready (rs := [7]) (by kernel_rfl) (by simp) (.cons rfl (fun K hK => ?_) .nil)
 go_simp
 go_wp2_with fail
 refine (U.wnum_any bo m cc _ false x2 _ HP3.out.wk.w (fun e => by cases e) (by have := HB.out; omega) (by have h5 := HP3.out.wk.len; have h6 := HP.out.wk.len; have h7 := U.numB_len 9 x1 (by have := HB.out; omega); have := HQ.out; rw [List.length_append] at h5; omega)).mono ?_
 rintro e W4 ⟨rfl, hp4⟩
 obtain ⟨bo2, m2, cc2, P4⟩ := HP3.out.put hp4
 have HP4 := hide P4
 refine hK.out _ _ (⟨(HC.out _ _ _ _ _ (P4)).1, (HC.out _ _ _ _ _ (P4)).2.c1⟩) (fun hHeld => ?_)
 clear hK K hp4 P4
 refine wpAnyH_done (by kernel_rfl) ?_ _
 clear hHeld
 go_wp2_with fail
 go_end0
 refine ⟨rfl, bo2, m2, cc2, ?_⟩
 have := HP4.out.sub (F' := F) (fun x hx => List.mem_cons_of_mem _ hx)
 rw [List.append_assoc] at this
 exact this
theorem place_any (h : PW w0 W gw ao n cap Z F) {gt : Nat} {r0 : Int} {T : Nat → Int} (ht : (gt, .cells (TC 2 r0 T).toArray 133 (0, 0)) ∈ F) (k : Nat) (hk : k < 16) (num : Int) (h1 : 0 ≤ r0 ∧ r0 ≤ (k : Int)) (h2 : T k + 2 ≤ num) (h3 : 0 ≤ T k ∧ T k ≤ 1000000000) (h4 : num ≤ 1000000000) (hn : n ≤ 100000000000000) :
  Calls Tryz.prog 63 #[.agg #[U.ptr gw], U.ptr gt, .int .i64 (k : Int), .int .i64 num] W fun e w' => e = .returned (.tuple #[]) ∧ ∃ bo m cc, PW w0 w' gw bo m cc (Z ++ (nB ((k : Int) - r0) ++ nB (num - (T k + 2)))) F := placeG_any h (gap := 2) ⟨by decide, by decide⟩ ht k hk num h1 h2 h3 h4 hn
end Go.Proofs.YtphohmoibnoeaaaGreat
