/- The law's plain. -/
import Derived.Test.YtmemcnjabnpdmabDoorKPs
import Derived.Test.YtmemcnjabnpdmabDoorKEl
import Derived.OrdersHeld
namespace Go.Proofs.YtmemcnjabnpdmabDoor
open Go.RowKit T Y V
variable {w w' w2 : World} {g : Nat}
attribute [local go_sem] fold_OC
attribute [local go_sem ↓] ldSh_eq stSh_eq ldO_eq stO_eq ldHd_eq stHd_eq ldS_eq stS_eq

theorem SBox.set6 {a b c d e f : Int} {so : Option Addr} {n sc : Nat} (h : SBox w g ⟨a, b, c, d, e, f, so, n, sc⟩) (bo : Option Addr) (m k : Nat) : SBox (w.setCell ⟨g, 6, none⟩ (.slice bo m k)) g ⟨a, b, c, d, e, f, bo, m, k⟩ ∧ w.frozen? ⟨g, 6, none⟩ = false := by
  unfold SBox at h ⊢
  refine ⟨?_, by simp [World.frozen?, h]⟩
  rw [heap_setCell_same w g _ _ _ _ h]
  rfl
/-- while the plain script is made -/
structure Ps (w v : World) (g1 g2 g3 : Nat) (a b c d e f : Int) (so : Option Addr) (n sc : Nat) (X : List Sp) (bo : Option Addr) (m k : Nat) : Prop where
  x : SBox v g1 ⟨a, b, c, d, e, f, so, n, sc⟩
  z : SBox v g2 sc0
  y : SBox v g3 ⟨a, b, c, d, e, f, bo, m, k⟩
  o : OR v bo m k X
  b : Below w.heap.size w v
  h1 : w.heap.size ≤ g1
  h12 : g1 < g2
  h23 : g2 < g3
  hk : ∀ j, blk bo = some j → g3 < j
section
variable {g1 g2 g3 : Nat} {a b c d e f : Int} {so : Option Addr} {n sc : Nat} {X : List Sp} {bo : Option Addr} {m k : Nat} {v : World}
theorem Ps.below (h : Ps w v g1 g2 g3 a b c d e f so n sc X bo m k) (hb : Below v.heap.size v w2) : Ps w w2 g1 g2 g3 a b c d e f so n sc X bo m k :=
  ⟨h.x.below hb, h.z.below hb, h.y.below hb, h.o.below hb, h.b.trans (hb.mono h.b.size), h.h1, h.h12, h.h23, h.hk⟩
theorem Ps.app {b7 : Option Addr} {q7 : Nat} {w7 : World} {p : Sp} (h : Ps w v g1 g2 g3 a b c d e f so n sc X bo m k) (R : OR w7 b7 (m + 1) q7 (X ++ [p])) (A : Ap v w7 bo b7) :
    (w7.cell? ⟨g3, 6, none⟩ = some (.slice bo m k) ∧ w7.frozen? ⟨g3, 6, none⟩ = false) ∧ Ps w (w7.setCell ⟨g3, 6, none⟩ (.slice b7 (m + 1) q7)) g1 g2 g3 a b c d e f so n sc (X ++ [p]) b7 (m + 1) q7 ∧ ∀ j, j < v.heap.size → g3 < j → blk bo ≠ some j → (w7.heap[j]? = v.heap[j]? ∧ (w7.setCell ⟨g3, 6, none⟩ (.slice b7 (m + 1) q7)).heap[j]? = v.heap[j]?) := by
  have h1 := h.h1
  have h12 := h.h12
  have h23 := h.h23
  have e3 : w7.heap[g3]? = v.heap[g3]? := A.grown.block g3 h.y.lt (fun e => by have := h.hk g3 e.symm; omega)
  have e2 : w7.heap[g2]? = v.heap[g2]? := A.grown.block g2 h.z.lt (fun e => by have := h.hk g2 e.symm; omega)
  have e1 : w7.heap[g1]? = v.heap[g1]? := A.grown.block g1 h.x.lt (fun e => by have := h.hk g1 e.symm; omega)
  have y7 : SBox w7 g3 ⟨a, b, c, d, e, f, bo, m, k⟩ := e3.trans h.y
  have hk7 : ∀ j, blk b7 = some j → g3 < j := fun j hj => by
    rcases A.lies with e | ⟨i, e, hi⟩
    · exact h.hk j (e ▸ hj)
    · rw [e] at hj
      have h5 := Option.some.inj hj
      have h6 := h.y.lt
      omega
  have bb : Below w.heap.size w w7 := h.b.trans ⟨A.grown.os, A.grown.tape, A.grown.output, A.grown.size, fun j hj => A.grown.block j (Nat.lt_of_lt_of_le hj h.b.size) (fun e => by have := h.hk j e.symm; omega)⟩
  refine ⟨⟨y7.c6, (y7.set6 b7 (m + 1) q7).2⟩, ⟨(heap_setCell_other w7 _ g1 _ (by show g1 ≠ g3; omega)).trans (e1.trans h.x), (heap_setCell_other w7 _ g2 _ (by show g2 ≠ g3; omega)).trans (e2.trans h.z), (y7.set6 b7 (m + 1) q7).1, R.keep fun j e => heap_setCell_other w7 _ j _ (by show j ≠ g3; have := hk7 j e; omega), bb.setCell (by show _ ≤ g3; omega) _, h.h1, h.h12, h.h23, hk7⟩, fun j hj hg hne => ?_⟩
  have e4 : w7.heap[j]? = v.heap[j]? := A.grown.block j hj (fun e => hne e.symm)
  exact ⟨e4, (heap_setCell_other w7 _ j _ (by show j ≠ g3; omega)).trans e4⟩
end
set_option maxRecDepth 100000 in
set_option maxHeartbeats 6400000 in
theorem plainS_any (a b c d e f : Int) (so : Option Addr) (n sc : Nat) (L : List Sp) (w : World) (hS : OSrc w so n sc L) (hn : n ≤ 1000000000000) (hs : Sht w) :
    Calls Tryd.prog 11 #[.agg (SC ⟨a, b, c, d, e, f, so, n, sc⟩)] w fun r w' => ∃ so2 n2 c2, r = .returned (.agg (SC ⟨a, b, c, d, e, f, so2, n2, c2⟩)) ∧ OR w' so2 n2 c2 (L.map plainP) ∧ (∀ k, blk so2 = some k → w.heap.size ≤ k) ∧ Below w.heap.size w w' := by
  obtain ⟨w1, hw1⟩ : ∃ w1, w.alloc (.cells (SC ⟨a, b, c, d, e, f, so, n, sc⟩) 26) = w1 := ⟨_, rfl⟩
  have hx1 : SBox w1 w.heap.size ⟨a, b, c, d, e, f, so, n, sc⟩ := by rw [← hw1]; exact SBox_new w _
  have hb1 : Below w.heap.size w w1 := by rw [← hw1]; exact below_new _ _
  have hz1 : w1.heap.size = w.heap.size + 1 := by rw [← hw1]; simp
  obtain ⟨w2, hw2⟩ : ∃ w2, w1.alloc (.cells #[.int .i64 0, .int .i64 0, .int .i64 0, .int .i64 0, .int .i64 0, .int .i64 0, .slice none 0 0] 26) = w2 := ⟨_, rfl⟩
  have hy2 : SBox w2 w1.heap.size sc0 := by rw [← hw2]; exact SBox_new w1 sc0
  have hb2 : Below w1.heap.size w1 w2 := by rw [← hw2]; exact below_new _ _
  have hz2 : w2.heap.size = w1.heap.size + 1 := by rw [← hw2]; simp
  have hlh := (hx1.below hb2).hdAt
  obtain ⟨w3, hst, hx3, hb3, -⟩ := madeS w2 ⟨a, b, c, d, e, f, none, 0, 0⟩ w2.heap.size rfl
  have hst' : (stS (.pointer (some ⟨w2.heap.size, 0, none⟩)) (.agg #[.int .i64 a, .int .i64 b, .int .i64 c, .int .i64 d, .int .i64 e, .int .i64 f, .slice none 0 0])).run Tryd.prog (w2.alloc (.cells #[.int .i64 0, .int .i64 0, .int .i64 0, .int .i64 0, .int .i64 0, .int .i64 0, .slice none 0 0] 26)) = .ok () w3 := hst
  have bw2 := hb1.trans (hb2.mono hb1.size)
  have bw3 := bw2.trans (hb3.mono bw2.size)
  have hc6 := ((hx1.below hb2).below hb3).c6
  have HP0 : Hid (Ps w w3 w.heap.size w1.heap.size w2.heap.size a b c d e f so n sc [] none 0 0) := ⟨(hx1.below hb2).below hb3, hy2.below hb3, hx3, OR.nil _, bw3, Nat.le_refl _, by omega, by omega, (fun j h => by cases h)⟩
  have HS := hide hS
  have HH := hide hs
  have HL := hide hS.len
  clear hx1 hb1 hy2 hb2 hS hs hst hx3 hb3 bw2 bw3 hz1 hz2
  unfold HdC at hlh
  simp only at hlh
  go_enter Tryd.func11, Tryd.ntmps11
  go_wp2_with fail
  clear hlh hst' hc6
  go_loopw [12] (fun v wr => ∃ (i : Nat) (bo : Option Addr) (m k : Nat), i ≤ n ∧ v = .int .i64 (i : Int) ∧ Hid (m = i) ∧ Hid (Ps w wr w.heap.size w1.heap.size w2.heap.size a b c d e f so n sc ((L.take i).map plainP) bo m k)) (fun v _ => n - (intOf v).toNat)
  case atStart => exact ⟨0, none, 0, 0, by omega, rfl, rfl, HP0⟩
  case round =>
    clear HP0
    obtain ⟨i, bo, m, k, hi, rfl, Hm, HP⟩ := hrel
    by_cases hlt : i < n
    · have hiI : (i : Int) < n := by omega
      obtain ⟨ad, rfl, x⟩ := (HS.out.below HP.out.b).at i hlt
      have HE := hide (take_op L i (by have := HL.out; omega))
      obtain ⟨y, hy⟩ : ∃ y, L.getD i sp0 = y := ⟨_, rfl⟩
      rw [hy] at x HE
      have x0 : (ldO (.pointer (some (ad.add (i * 7))))).run Tryd.prog wr = .ok (.agg (OC y)) wr := run_laO x
      obtain ⟨w5, hst, hbx, hbl, -⟩ := madeO wr y wr.heap.size rfl
      have hst' : (stO (.pointer (some ⟨wr.heap.size, 0, none⟩)) (.agg (OC y))).run Tryd.prog (wr.alloc (.cells #[.int .i64 0, .int .i64 0, .int .i64 0, .int .i64 0, .string ⟨#[]⟩, .int .i64 0, .int .i64 0] 40)) = .ok () w5 := hst
      have HP5 := hide (HP.out.below hbl)
      have HO5 := hide hbx
      have u5 := HP5.out.y.c6
      simp only at u5
      have HPd := hide (HP5.out.below (below_drew1 w5))
      have HOd := hide (HO5.out.below (below_drew1 w5))
      have Hwr : Hid (w2.heap.size < wr.heap.size) := HP.out.y.lt
      have Hob : Hid (∀ j, blk bo = some j → j < wr.heap.size) := fun j h => HP.out.o.lt j h
      clear hst hbx hbl x hy
      go_wp2_with fail
      refine wp_region_held_drew (S := fun v => OBox v wr.heap.size y) (by kernel_rfl) (HOd.out) (fun hHeld => ?_)
      refine wpAnyH_take (i := 0) (oi := { dst := some 16, op := Op.fieldAddr 26 (Operand.tmp 3) 1, type := 0, pos := "outright.go:42", after := #[], guard := none }) (v := ?_) rfl (by kernel_rfl) (by kernel_rfl) (by kernel_rfl) (fun _ _ _ h => h) (Or.inl ⟨by rfl, ?_⟩) (by assumption) ?_
      rotate_left
      · (intro w hSw; (try dsimp only at hSw); go_simp); first | done | with_reducible rfl
      simp only [Act.put, List.setIfInBounds_toArray, List.set_cons_zero, List.set_cons_succ]
      refine wpAnyH_take (i := 2) (oi := { dst := some 18, op := Op.load 40 (Operand.tmp 5), type := 40, pos := "outright.go:42", after := #[], guard := none }) (v := ?_) rfl (by kernel_rfl) (by kernel_rfl) (by kernel_rfl) (fun _ _ _ h => h) (Or.inl ⟨by rfl, ?_⟩) (by assumption) ?_
      rotate_left
      · (intro w hSw; (try dsimp only at hSw); have hl := run_ldO hSw; go_simp); first | done | with_reducible rfl
      simp only [Act.put, List.setIfInBounds_toArray, List.set_cons_zero, List.set_cons_succ]
      refine wpAnyH_ready (rs := [1, 3]) (by kernel_rfl) (by simp) ?_
      refine AllReadyH.cons rfl (fun K hK => ?_) (AllReadyH.cons rfl (fun K hK => ?_) AllReadyH.nil)
      · go_simp
        go_wp2_with fail
        refine hK.out _ _ (HOd.out) (fun hHeld => ?_)
        clear hK K
        refine wpAnyH_ready (rs := [3]) (by kernel_rfl) (by simp) ?_
        refine AllReadyH.cons rfl (fun K hK => ?_) ?_
        rotate_left
        · exact AllReadyH.nil
        go_simp
        go_wp2_with fail
        refine (plain_any y w5.drew (HH.out.on HPd.out.b)).mono ?_
        rintro r w6 ⟨rfl, b6⟩
        have HP6 := hide (HPd.out.below b6)
        have HO6 := hide (HOd.out.below b6)
        obtain ⟨b7, q7, w7, hrun, R7, A7⟩ := HP6.out.o.runs (L := [plainP y]) (m := 1) (cs := OC (plainP y)) rfl (OR_one_lit _) (by have := Hm.out; omega) 24
        obtain ⟨t7, hp7, hj7⟩ := HP6.out.app R7 A7
        have hj := hj7 wr.heap.size (by have := HO6.out.lt; omega) Hwr.out (fun e => by have := Hob.out _ e; omega)
        have HO7 : Hid (OBox w7 wr.heap.size y) := hj.1.trans HO6.out
        have HO8 : Hid (OBox (w7.setCell ⟨w2.heap.size, 6, none⟩ (.slice b7 (m + 1) q7)) wr.heap.size y) := hj.2.trans HO6.out
        have HP8 := hide hp7
        have u6 := HP6.out.y.c6
        simp only at u6
        clear R7 A7 hp7 hj7 hj b6
        refine hK.out _ _ HO6.out (fun hHeld => ?_)
        clear hK K
        refine wpAnyH_ready (rs := [4]) (by kernel_rfl) (by simp) ?_
        refine AllReadyH.cons rfl (fun K hK => ?_) ?_
        rotate_left
        · exact AllReadyH.nil
        go_simp
        refine hK.out _ (w6.alloc (.cells (OC (plainP y)) 40)) (HO6.out.below (below_new _ _)) (fun hHeld => ?_)
        clear hK K
        refine wpAnyH_ready (rs := [5]) (by kernel_rfl) (by simp) ?_
        refine AllReadyH.cons rfl (fun K hK => ?_) ?_
        rotate_left
        · exact AllReadyH.nil
        refine step_appO (by rfl) (.tmp 17) (.tmp 20) (by rfl) (by rfl) (by rfl) hrun ?_
        refine hK.out _ _ HO7.out (fun hHeld => ?_)
        clear hK K
        refine wpAnyH_take (i := 6) (oi := { dst := some 22, op := Op.fieldAddr 26 (Operand.tmp 3) 1, type := 0, pos := "outright.go:42", after := #[{ on := 0, ground := Ground.phase }, { on := 1, ground := Ground.phase }, { on := 2, ground := Ground.phase }, { on := 3, ground := Ground.phase }, { on := 4, ground := Ground.phase }, { on := 5, ground := Ground.phase }], guard := none }) (v := ?_) rfl (by kernel_rfl) (by kernel_rfl) (by kernel_rfl) (fun _ _ _ h => h) (Or.inl ⟨by rfl, ?_⟩) (by assumption) ?_
        rotate_left
        · (intro w hSw; (try dsimp only at hSw); go_simp); first | done | with_reducible rfl
        simp only [Act.put, List.setIfInBounds_toArray, List.set_cons_zero, List.set_cons_succ]
        refine wpAnyH_ready (rs := [7]) (by kernel_rfl) (by simp) ?_
        refine AllReadyH.cons rfl (fun K hK => ?_) ?_
        rotate_left
        · exact AllReadyH.nil
        go_simp
        go_wp2_with fail
        refine hK.out _ _ HO8.out (fun hHeld => ?_)
        clear hK K
        refine wpAnyH_done (by kernel_rfl) ?_ _
        clear hHeld
        go_wp2_with fail
        go_roundw
        case rel => exact ⟨i + 1, b7, m + 1, q7, by omega, by go_num, by show _ = _; rw [Hm.out], by show Ps _ _ _ _ _ _ _ _ _ _ _ _ _ _ _ _ _ _; rw [HE.out, List.map_append]; exact HP8.out⟩
        case measure => simp [intOf]; omega
      · go_simp
        go_wp2_with fail
        refine (plain_any y w5.drew (HH.out.on HPd.out.b)).mono ?_
        rintro r w6 ⟨rfl, b6⟩
        have HP6 := hide (HPd.out.below b6)
        have HO6 := hide (HOd.out.below b6)
        obtain ⟨b7, q7, w7, hrun, R7, A7⟩ := HP6.out.o.runs (L := [plainP y]) (m := 1) (cs := OC (plainP y)) rfl (OR_one_lit _) (by have := Hm.out; omega) 24
        obtain ⟨t7, hp7, hj7⟩ := HP6.out.app R7 A7
        have hj := hj7 wr.heap.size (by have := HO6.out.lt; omega) Hwr.out (fun e => by have := Hob.out _ e; omega)
        have HO7 : Hid (OBox w7 wr.heap.size y) := hj.1.trans HO6.out
        have HO8 : Hid (OBox (w7.setCell ⟨w2.heap.size, 6, none⟩ (.slice b7 (m + 1) q7)) wr.heap.size y) := hj.2.trans HO6.out
        have HP8 := hide hp7
        have u6 := HP6.out.y.c6
        simp only at u6
        clear R7 A7 hp7 hj7 hj b6
        refine hK.out _ _ HO6.out (fun hHeld => ?_)
        clear hK K
        refine wpAnyH_ready (rs := [1, 4]) (by kernel_rfl) (by simp) ?_
        refine AllReadyH.cons rfl (fun K hK => ?_) (AllReadyH.cons rfl (fun K hK => ?_) AllReadyH.nil)
        · go_simp
          go_wp2_with fail
          refine hK.out _ _ (HO6.out) (fun hHeld => ?_)
          clear hK K
          refine wpAnyH_ready (rs := [4]) (by kernel_rfl) (by simp) ?_
          refine AllReadyH.cons rfl (fun K hK => ?_) ?_
          rotate_left
          · exact AllReadyH.nil
          go_simp
          refine hK.out _ (w6.alloc (.cells (OC (plainP y)) 40)) (HO6.out.below (below_new _ _)) (fun hHeld => ?_)
          clear hK K
          refine wpAnyH_ready (rs := [5]) (by kernel_rfl) (by simp) ?_
          refine AllReadyH.cons rfl (fun K hK => ?_) ?_
          rotate_left
          · exact AllReadyH.nil
          refine step_appO (by rfl) (.tmp 17) (.tmp 20) (by rfl) (by rfl) (by rfl) hrun ?_
          refine hK.out _ _ HO7.out (fun hHeld => ?_)
          clear hK K
          refine wpAnyH_take (i := 6) (oi := { dst := some 22, op := Op.fieldAddr 26 (Operand.tmp 3) 1, type := 0, pos := "outright.go:42", after := #[{ on := 0, ground := Ground.phase }, { on := 1, ground := Ground.phase }, { on := 2, ground := Ground.phase }, { on := 3, ground := Ground.phase }, { on := 4, ground := Ground.phase }, { on := 5, ground := Ground.phase }], guard := none }) (v := ?_) rfl (by kernel_rfl) (by kernel_rfl) (by kernel_rfl) (fun _ _ _ h => h) (Or.inl ⟨by rfl, ?_⟩) (by assumption) ?_
          rotate_left
          · (intro w hSw; (try dsimp only at hSw); go_simp); first | done | with_reducible rfl
          simp only [Act.put, List.setIfInBounds_toArray, List.set_cons_zero, List.set_cons_succ]
          refine wpAnyH_ready (rs := [7]) (by kernel_rfl) (by simp) ?_
          refine AllReadyH.cons rfl (fun K hK => ?_) ?_
          rotate_left
          · exact AllReadyH.nil
          go_simp
          go_wp2_with fail
          refine hK.out _ _ HO8.out (fun hHeld => ?_)
          clear hK K
          refine wpAnyH_done (by kernel_rfl) ?_ _
          clear hHeld
          go_wp2_with fail
          go_roundw
          case rel => exact ⟨i + 1, b7, m + 1, q7, by omega, by go_num, by show _ = _; rw [Hm.out], by show Ps _ _ _ _ _ _ _ _ _ _ _ _ _ _ _ _ _ _; rw [HE.out, List.map_append]; exact HP8.out⟩
          case measure => simp [intOf]; omega
        · go_simp
          refine hK.out _ (w6.alloc (.cells (OC (plainP y)) 40)) (HO6.out.below (below_new _ _)) (fun hHeld => ?_)
          clear hK K
          refine wpAnyH_ready (rs := [1]) (by kernel_rfl) (by simp) ?_
          refine AllReadyH.cons rfl (fun K hK => ?_) ?_
          rotate_left
          · exact AllReadyH.nil
          have u7 := cell?_old u6 (.cells (OC (plainP y)) 40)
          go_simp
          go_wp2_with fail
          refine hK.out _ _ (HO6.out.below (below_new _ _)) (fun hHeld => ?_)
          clear hK K
          refine wpAnyH_ready (rs := [5]) (by kernel_rfl) (by simp) ?_
          refine AllReadyH.cons rfl (fun K hK => ?_) ?_
          rotate_left
          · exact AllReadyH.nil
          refine step_appO (by rfl) (.tmp 17) (.tmp 20) (by rfl) (by rfl) (by rfl) hrun ?_
          refine hK.out _ _ HO7.out (fun hHeld => ?_)
          clear hK K
          refine wpAnyH_take (i := 6) (oi := { dst := some 22, op := Op.fieldAddr 26 (Operand.tmp 3) 1, type := 0, pos := "outright.go:42", after := #[{ on := 0, ground := Ground.phase }, { on := 1, ground := Ground.phase }, { on := 2, ground := Ground.phase }, { on := 3, ground := Ground.phase }, { on := 4, ground := Ground.phase }, { on := 5, ground := Ground.phase }], guard := none }) (v := ?_) rfl (by kernel_rfl) (by kernel_rfl) (by kernel_rfl) (fun _ _ _ h => h) (Or.inl ⟨by rfl, ?_⟩) (by assumption) ?_
          rotate_left
          · (intro w hSw; (try dsimp only at hSw); go_simp); first | done | with_reducible rfl
          simp only [Act.put, List.setIfInBounds_toArray]
          refine wpAnyH_ready (rs := [7]) (by kernel_rfl) (by simp) ?_
          refine AllReadyH.cons rfl (fun K hK => ?_) ?_
          rotate_left
          · exact AllReadyH.nil
          go_simp
          go_wp2_with fail
          refine hK.out _ _ HO8.out (fun hHeld => ?_)
          clear hK K
          refine wpAnyH_done (by kernel_rfl) ?_ _
          clear hHeld
          go_wp2_with fail
          go_roundw
          case rel => exact ⟨i + 1, b7, m + 1, q7, by omega, by go_num, by show _ = _; rw [Hm.out], by show Ps _ _ _ _ _ _ _ _ _ _ _ _ _ _ _ _ _ _; rw [HE.out, List.map_append]; exact HP8.out⟩
          case measure => simp [intOf]; omega
    · obtain rfl : i = n := by omega
      have HT : Hid (L.take i = L) := List.take_of_length_le (by have := HL.out; omega)
      have hld := run_ldS HP.out.y
      obtain ⟨w6, hst, hx6, k6⟩ := sc_put (o := ⟨a, b, c, d, e, f, bo, m, k⟩) HP.out.z
      have HX6 := hide hx6
      have HB6 : Hid (Below w.heap.size w w6) := HP.out.b.trans (k6.below (by have := HP.out.h1; have := HP.out.h12; omega) HP.out.b.size)
      have HO6 : Hid (OR w6 bo m k ((L.take i).map plainP)) := HP.out.o.keep fun j h => k6.gr.block j (HP.out.o.lt j h) (by intro e2; have h1 := Option.some.inj e2; have h2 := HP.out.hk j h; have := HP.out.h23; omega)
      have HF : Hid (∀ j, blk bo = some j → w.heap.size ≤ j) := fun j h => by have h2 := HP.out.hk j h; have := HP.out.h1; have := HP.out.h12; have := HP.out.h23; omega
      clear hx6 k6
      go_wp2_with fail
      refine bodyPost_ret (res1S Tryd.results11 rfl HX6.out) rfl ⟨bo, m, k, rfl, ?_, HF.out, HB6.out⟩
      have := HO6.out
      rw [HT.out] at this
      exact this
end Go.Proofs.YtmemcnjabnpdmabDoor
