/- DlogLists. -/
import Derived.Test.YtioioagomlpmeaaDLt
import Derived.Test.YtioioagomlpmeaaDOp
namespace Go.Proofs.Ytioioagomlpmeaa
open Go.RowKit
attribute [local go_sem ↓] ldO_eq stO_eq
attribute [local go_sem] zero_DC cells_DV

theorem St.begin {w0 w : World} {gl gr : Nat} {m nx : Int} (L : Lg w0.heap.size w gl m nx [] none 0) (R : Rf w0.heap.size w gr m nx (0 : Nat) [] none 0) (hb : Below w0.heap.size w0 w) (ne : gl ≠ gr) : ∃ β, St w0 w β gl m nx [] none 0 gr nx 0 [] none 0 none 0 0 [] none 0 [] (fun _ => []) := by
  refine ⟨fun x => if x = (4, 0) then some gl else if x = (4, 2) then some gr else none, ⟨fun x j e => ?_, fun x y j e f => ?_⟩, hb, fun x j e => ?_, L, by simp, by simp [blk], R, by simp, by simp [blk], World.ownsRow_nil _ _ _ _, by simp [blk], (fun q hq => by omega), World.ownsRow_nil _ _ _ _, by simp [blk], (fun q hq => by omega)⟩
  · split at e
    · have := L.lt; have := Option.some.inj e; omega
    · split at e
      · have := R.lt; have := Option.some.inj e; omega
      · cases e
  · split at e
    · split at f
      · rename_i h1 h2; rw [h1, h2]
      · split at f
        · have := Option.some.inj e; have := Option.some.inj f; omega
        · cases f
    · split at e
      · split at f
        · have := Option.some.inj e; have := Option.some.inj f; omega
        · split at f
          · rename_i h1 _ h2; rw [h1, h2]
          · cases f
      · cases e
  · split at e
    · have := L.hg; have := Option.some.inj e; omega
    · split at e
      · have := R.hg; have := Option.some.inj e; omega
      · cases e
def Inv (w1 wr : World) (gl gr : Nat) (m n0 : Int) (j k : Nat) (lo : Option Addr) (lc : Nat) (F : List Sl) (wo : Option Addr) (wc : Nat) (W : List Sl) (X : Nat → List Int) : Prop :=
  ∃ β nx Z al cl kk A ar cr, St w1 wr β gl m nx Z al cl gr n0 kk A ar cr lo j lc F wo wc W X ∧ Ag m nx n0 kk Z A ∧ A.length ≤ k ∧ Z.length ≤ 64 ∧ ∀ q, q < j → (fr F q).n ≤ 65
theorem Inv.below {w1 wr w' : World} {gl gr : Nat} {m n0 : Int} {j k : Nat} {lo : Option Addr} {lc : Nat} {F : List Sl} {wo : Option Addr} {wc : Nat} {W : List Sl} {X : Nat → List Int} (h : Inv w1 wr gl gr m n0 j k lo lc F wo wc W X) (hb : Below wr.heap.size wr w') : Inv w1 w' gl gr m n0 j k lo lc F wo wc W X := by
  obtain ⟨β, nx, Z, al, cl, kk, A, ar, cr, h1, h2⟩ := h
  exact ⟨β, nx, Z, al, cl, kk, A, ar, cr, h1.below hb, h2⟩
theorem Inv.bel {w1 wr : World} {gl gr : Nat} {m n0 : Int} {j k : Nat} {lo : Option Addr} {lc : Nat} {F : List Sl} {wo : Option Addr} {wc : Nat} {W : List Sl} {X : Nat → List Int} (h : Inv w1 wr gl gr m n0 j k lo lc F wo wc W X) : Below w1.heap.size w1 wr := by
  obtain ⟨β, nx, Z, al, cl, kk, A, ar, cr, h1, h2⟩ := h
  exact h1.bel
theorem box_kp {w w' : World} {g q : Nat} {ao : Option Addr} {e : Dp} (X : DBox w q e) (K : Kp w w' g ao) (h1 : q ≠ g) (h2 : ∀ ad, ao = some ad → ad.block ≠ q) : DBox w' q e := (K.block q X.lt h1 h2).trans X
theorem Ag.from {m nx s : Int} {k : Nat} {Z A : List Int} (h : Ag m nx s k Z A) : fromB nx Z (s + k) = true ∧ fromV nx Z (s + k) = Z := by
  have hf := h.first
  have e : fromB nx Z (s + k) = true := by unfold fromB; exact decide_eq_true (by omega)
  refine ⟨e, ?_⟩
  unfold fromV
  rw [if_pos e, show s + (k : Int) - (nx - Z.length) = 0 by omega]
  rfl
theorem IR.of {w : World} {B : Nat} {ao : Option Addr} {n c : Nat} {Z : List Int} (h : w.ownsRow B 3 1 (.slice ao n c) n (ics Z)) : IR w ao n c Z ∧ ∀ j, blk ao = some j → B ≤ j := ⟨own_down h (Nat.zero_le _), fun j e => (h.lt j (by rw [ownBlock_blk]; exact e)).1⟩
def OC (W : World) (q : Nat) (e : Dp) : Prop := W.cell? ⟨q, 0, none⟩ = some (.int .i64 e.kind) ∧ W.cell? ⟨q, 2, none⟩ = some (.int .i64 e.n) ∧ W.cell? ⟨q, 3, none⟩ = some (.int .i64 e.x)
theorem DBox.oc {w : World} {q : Nat} {e : Dp} (h : DBox w q e) : OC w q e := by
  unfold DBox at h
  exact ⟨by simp [World.cell?, h, DC], by simp [World.cell?, h, DC], by simp [World.cell?, h, DC]⟩
set_option maxRecDepth 100000 in
set_option maxHeartbeats 4000000 in
theorem lists_any (a b c d : Int) (so : Option Addr) (n sc : Nat) (S : List Dp) (w : World) (hS : DSrc w so n sc S) (hn : n ≤ 1048576) :
    Calls Try.prog 3 #[.agg #[.int .i64 a, .int .i64 b, .int .i64 c, .int .i64 d, .slice so n sc]] w fun e w' => e = .returned (.bool true) ∧ Below w.heap.size w w' := by
  obtain ⟨w1, hw1⟩ : ∃ w1, w.alloc (.cells #[.int .i64 a, .int .i64 b, .int .i64 c, .int .i64 d, .slice so n sc] 24) = w1 := ⟨_, rfl⟩
  have HX : Hid (w1.heap[w.heap.size]? = some (.cells #[.int .i64 a, .int .i64 b, .int .i64 c, .int .i64 d, .slice so n sc] 24 (0, 0))) := by show _ = _; rw [← hw1, heap_alloc_new]
  have HB1 : Hid (Below w.heap.size w w1) := by rw [← hw1]; exact below_new _ _
  have HZ1 : Hid (w1.heap.size = w.heap.size + 1) := by show _ = _; rw [← hw1]; simp
  have HS := hide (hS.below HB1.out)
  obtain ⟨m, hm⟩ : ∃ m, btw a 0 64 = m := ⟨_, rfl⟩
  obtain ⟨n0, hn0⟩ : ∃ n0, btw b 0 4611686018427387904 = n0 := ⟨_, rfl⟩
  have HM : Hid (btw a 0 64 = m ∧ 0 ≤ m ∧ m ≤ 64) := ⟨hm, by unfold btw at hm; omega, by unfold btw at hm; omega⟩
  have HN : Hid (btw b 0 4611686018427387904 = n0 ∧ 0 ≤ n0 ∧ n0 ≤ 4611686018427387904) := ⟨hn0, by unfold btw at hn0; omega, by unfold btw at hn0; omega⟩
  have HCX : Hid (∀ W, Below w1.heap.size w1 W → W.cell? ⟨w.heap.size, 0, none⟩ = some (.int .i64 a) ∧ W.cell? ⟨w.heap.size, 1, none⟩ = some (.int .i64 b) ∧ W.cell? ⟨w.heap.size, 4, none⟩ = some (.slice so n sc)) := by
    intro W hb
    have h := (hb.block w.heap.size (by have := HZ1.out; omega)).trans HX.out
    exact ⟨by simp [World.cell?, h], by simp [World.cell?, h], by simp [World.cell?, h]⟩
  clear hS hm hn0 HX
  go_enter Try.func3, Try.ntmps3
  go_wp2_with fail
  clear hw1
  refine (fixed_any w1).mono ?_
  rintro e w2 ⟨rfl, b2⟩
  have HB2 := hide b2
  clear b2
  go_wp2_with fail
  refine wp_region_held_drew (S := fun W => W.cell? ⟨w.heap.size, 0, none⟩ = some (.int .i64 a) ∧ W.cell? ⟨w.heap.size, 1, none⟩ = some (.int .i64 b)) (by kernel_rfl) (⟨(HCX.out _ (below_on' HB2.out (below_drew1 w2))).1, (HCX.out _ (below_on' HB2.out (below_drew1 w2))).2.1⟩) (fun hHeld => ?_)
  have HBd := hide (below_on' HB2.out (below_drew1 w2))
  generalize w2.drew = wd at HBd hHeld ⊢
  refine wpAnyH_take (i := 0) (oi := { dst := some 21, op := Op.fieldAddr 24 (Operand.tmp 1) 0, type := 0, pos := "law.go:351", after := #[], guard := none }) (v := ?_) rfl (by kernel_rfl) (by kernel_rfl) (by kernel_rfl) (fun _ _ _ h => h) (Or.inl ⟨by rfl, ?_⟩) (by assumption) ?_
  rotate_left
  · (intro w hSw; (try dsimp only at hSw); go_simp); first | done | with_reducible rfl
  simp only [Act.put, List.setIfInBounds_toArray, List.set_cons_zero, List.set_cons_succ]
  refine wpAnyH_take (i := 1) (oi := { dst := some 22, op := Op.load 3 (Operand.tmp 21), type := 3, pos := "law.go:351", after := #[{ on := 0, ground := Ground.data }], guard := none }) (v := ?_) rfl (by kernel_rfl) (by kernel_rfl) (by kernel_rfl) (fun _ _ _ h => h) (Or.inl ⟨by rfl, ?_⟩) (by assumption) ?_
  rotate_left
  · (intro w hSw; (try dsimp only at hSw); obtain ⟨hc0, hc1⟩ := hSw; go_simp); first | done | with_reducible rfl
  simp only [Act.put, List.setIfInBounds_toArray, List.set_cons_zero, List.set_cons_succ]
  refine wpAnyH_take (i := 2) (oi := { dst := some 23, op := Op.fieldAddr 24 (Operand.tmp 1) 1, type := 0, pos := "law.go:351", after := #[], guard := none }) (v := ?_) rfl (by kernel_rfl) (by kernel_rfl) (by kernel_rfl) (fun _ _ _ h => h) (Or.inl ⟨by rfl, ?_⟩) (by assumption) ?_
  rotate_left
  · (intro w hSw; (try dsimp only at hSw); go_simp); first | done | with_reducible rfl
  simp only [Act.put, List.setIfInBounds_toArray, List.set_cons_zero, List.set_cons_succ]
  refine wpAnyH_take (i := 3) (oi := { dst := some 24, op := Op.load 3 (Operand.tmp 23), type := 3, pos := "law.go:351", after := #[{ on := 2, ground := Ground.data }], guard := none }) (v := ?_) rfl (by kernel_rfl) (by kernel_rfl) (by kernel_rfl) (fun _ _ _ h => h) (Or.inl ⟨by rfl, ?_⟩) (by assumption) ?_
  rotate_left
  · (intro w hSw; (try dsimp only at hSw); obtain ⟨hc0, hc1⟩ := hSw; go_simp); first | done | with_reducible rfl
  simp only [Act.put, List.setIfInBounds_toArray, List.set_cons_zero, List.set_cons_succ]
  refine wpAnyH_take (i := 5) (oi := { dst := some 26, op := Op.fieldAddr 24 (Operand.tmp 1) 0, type := 0, pos := "law.go:351", after := #[], guard := none }) (v := ?_) rfl (by kernel_rfl) (by kernel_rfl) (by kernel_rfl) (fun _ _ _ h => h) (Or.inl ⟨by rfl, ?_⟩) (by assumption) ?_
  rotate_left
  · (intro w hSw; (try dsimp only at hSw); go_simp); first | done | with_reducible rfl
  simp only [Act.put, List.setIfInBounds_toArray, List.set_cons_zero, List.set_cons_succ]
  refine wpAnyH_take (i := 6) (oi := { dst := some 27, op := Op.load 3 (Operand.tmp 26), type := 3, pos := "law.go:351", after := #[{ on := 5, ground := Ground.data }], guard := none }) (v := ?_) rfl (by kernel_rfl) (by kernel_rfl) (by kernel_rfl) (fun _ _ _ h => h) (Or.inl ⟨by rfl, ?_⟩) (by assumption) ?_
  rotate_left
  · (intro w hSw; (try dsimp only at hSw); obtain ⟨hc0, hc1⟩ := hSw; go_simp); first | done | with_reducible rfl
  simp only [Act.put, List.setIfInBounds_toArray, List.set_cons_zero, List.set_cons_succ]
  refine wpAnyH_take (i := 7) (oi := { dst := some 28, op := Op.fieldAddr 24 (Operand.tmp 1) 1, type := 0, pos := "law.go:351", after := #[], guard := none }) (v := ?_) rfl (by kernel_rfl) (by kernel_rfl) (by kernel_rfl) (fun _ _ _ h => h) (Or.inl ⟨by rfl, ?_⟩) (by assumption) ?_
  rotate_left
  · (intro w hSw; (try dsimp only at hSw); go_simp); first | done | with_reducible rfl
  simp only [Act.put, List.setIfInBounds_toArray, List.set_cons_zero, List.set_cons_succ]
  refine wpAnyH_take (i := 8) (oi := { dst := some 29, op := Op.load 3 (Operand.tmp 28), type := 3, pos := "law.go:351", after := #[{ on := 7, ground := Ground.data }], guard := none }) (v := ?_) rfl (by kernel_rfl) (by kernel_rfl) (by kernel_rfl) (fun _ _ _ h => h) (Or.inl ⟨by rfl, ?_⟩) (by assumption) ?_
  rotate_left
  · (intro w hSw; (try dsimp only at hSw); obtain ⟨hc0, hc1⟩ := hSw; go_simp); first | done | with_reducible rfl
  simp only [Act.put, List.setIfInBounds_toArray, List.set_cons_zero, List.set_cons_succ]
  refine wpAnyH_ready (rs := [4]) (by kernel_rfl) (by simp) ?_
  refine AllReadyH.cons rfl (fun K hK => ?_) ?_
  rotate_left
  · exact AllReadyH.nil
  go_simp
  go_wp2_with fail
  refine (new_any (B := w1.heap.size) a b wd HBd.out.size).mono ?_
  rintro e w3 ⟨rfl, L3, b3⟩
  rw [HM.out.1, HN.out.1] at L3
  have HB3 := hide (below_on' HBd.out b3)
  have HL3 := hide L3
  have HS3 : Hid (wd.heap.size < w3.heap.size) := L3.lt
  refine hK.out _ _ ⟨(HCX.out _ HB3.out).1, (HCX.out _ HB3.out).2.1⟩ (fun hHeld => ?_)
  clear hK K L3 b3
  refine wpAnyH_ready (rs := [9]) (by kernel_rfl) (by simp) ?_
  refine AllReadyH.cons rfl (fun K hK => ?_) ?_
  rotate_left
  · exact AllReadyH.nil
  go_simp
  go_wp2_with fail
  refine (rnew_any (B := w1.heap.size) a b w3 HB3.out.size).mono ?_
  rintro e w4 ⟨rfl, L4, b4⟩
  rw [HM.out.1, HN.out.1] at L4
  have HB4 := hide (below_on' HB3.out b4)
  have HB := hide (St.begin (HL3.out.below b4) L4 HB4.out (by have := HS3.out; omega))
  refine hK.out _ _ ⟨(HCX.out _ HB4.out).1, (HCX.out _ HB4.out).2.1⟩ (fun hHeld => ?_)
  clear hK K L4 b4
  refine wpAnyH_take (i := 10) (oi := { dst := some 3, op := Op.assign (Operand.tmp 25), type := 26, pos := "law.go:351", after := #[{ on := 4, ground := Ground.data }, { on := 9, ground := Ground.chain }, { on := 0, ground := Ground.phase }, { on := 1, ground := Ground.phase }, { on := 2, ground := Ground.phase }, { on := 3, ground := Ground.phase }, { on := 4, ground := Ground.phase }, { on := 5, ground := Ground.textOnly Departure.lateStores }, { on := 6, ground := Ground.textOnly Departure.lateStores }, { on := 7, ground := Ground.textOnly Departure.lateStores }, { on := 8, ground := Ground.textOnly Departure.lateStores }, { on := 9, ground := Ground.textOnly Departure.lateStoresUnsure }], guard := none }) (v := ?_) rfl (by kernel_rfl) (by kernel_rfl) (by kernel_rfl) (fun _ _ _ h => h) (Or.inl ⟨by rfl, ?_⟩) (by assumption) ?_
  rotate_left
  · (intro w hSw; (try dsimp only at hSw); go_simp); first | done | with_reducible rfl
  simp only [Act.put, List.setIfInBounds_toArray, List.set_cons_zero, List.set_cons_succ]
  refine wpAnyH_take (i := 11) (oi := { dst := some 4, op := Op.assign (Operand.tmp 30), type := 28, pos := "law.go:351", after := #[{ on := 9, ground := Ground.data }, { on := 10, ground := Ground.chain }, { on := 0, ground := Ground.phase }, { on := 1, ground := Ground.phase }, { on := 2, ground := Ground.phase }, { on := 3, ground := Ground.phase }, { on := 4, ground := Ground.phase }, { on := 5, ground := Ground.phase }, { on := 6, ground := Ground.phase }, { on := 7, ground := Ground.phase }, { on := 8, ground := Ground.phase }, { on := 9, ground := Ground.phase }, { on := 10, ground := Ground.phase }], guard := none }) (v := ?_) rfl (by kernel_rfl) (by kernel_rfl) (by kernel_rfl) (fun _ _ _ h => h) (Or.inl ⟨by rfl, ?_⟩) (by assumption) ?_
  rotate_left
  · (intro w hSw; (try dsimp only at hSw); go_simp); first | done | with_reducible rfl
  simp only [Act.put, List.setIfInBounds_toArray, List.set_cons_zero, List.set_cons_succ]
  refine wpAnyH_done (by kernel_rfl) ?_ _
  clear hHeld
  obtain ⟨gl, hgl⟩ : ∃ gl, wd.heap.size = gl := ⟨_, rfl⟩
  obtain ⟨gr, hgr⟩ : ∃ gr, w3.heap.size = gr := ⟨_, rfl⟩
  rw [hgl, hgr] at HB
  rw [hgl, hgr]
  have HI0 : Hid (Inv w1 w4 gl gr m n0 (2 * 0) 0 none 0 [] none 0 [] (fun _ => [])) := by
    obtain ⟨β, h⟩ := HB.out
    have h1 := HM.out
    have h2 := HN.out
    exact ⟨β, n0, [], none, 0, 0, [], none, 0, h, ⟨⟨h1.2.1, h1.2.2, h2.2.1, by omega, by simp⟩, ⟨h1.2.1, h1.2.2, h2.2.1, h2.2.2, Int.le_refl _, by simp, by simp⟩, by simp, rfl⟩, Nat.le_refl _, by simp, (fun q hq => by omega)⟩
  clear hgl hgr HL3 HS3 HB3 HB HB4 HBd
  go_wp2_with fail
  go_loopg [5, 6, 7] n (fun g v u i wr => ∃ (k : Nat) (lo : Option Addr) (lc : Nat) (F : List Sl) (wo : Option Addr) (wc : Nat) (W : List Sl) (X : Nat → List Int), k ≤ n ∧ n - k ≤ g ∧ v = .slice lo (2 * k) lc ∧ u = .slice wo (2 * k) wc ∧ i = .int .i64 k ∧ Hid (Inv w1 wr gl gr m n0 (2 * k) k lo lc F wo wc W X))
  case atStart => exact ⟨0, none, 0, [], none, 0, [], fun _ => [], Nat.zero_le _, by omega, rfl, rfl, rfl, HI0⟩
  case round =>
    clear HI0
    obtain ⟨k, lo, lc, F, wo, wcc, W, X, hk, hg, rfl, rfl, rfl, H⟩ := hrel
    rename World => wr
    have x4 := (HCX.out wr H.out.bel).2.2
    by_cases hlt : k < n
    · obtain ⟨ad, rfl, A0⟩ := (HS.out.below H.out.bel).at k hlt
      obtain ⟨e, He⟩ : ∃ e, S.getD k dp0 = e := ⟨_, rfl⟩
      rw [He] at A0
      have hld := run_ldO A0
      obtain ⟨wk, hst, X1, B1, -⟩ := madeO wr e wr.heap.size rfl
      have HXO : Hid (DBox wk wr.heap.size e) := X1
      have HG : Hid (∃ β nx Z al cl kk A ar cr, St w1 wk β gl m nx Z al cl gr n0 kk A ar cr lo (2 * k) lc F wo wcc W X ∧ Ag m nx n0 kk Z A ∧ A.length ≤ k ∧ Z.length ≤ 64 ∧ (∀ q, q < 2 * k → (fr F q).n ≤ 65) ∧ gl < wr.heap.size ∧ gr < wr.heap.size ∧ (∀ ad, al = some ad → ad.block < wr.heap.size) ∧ ∀ ad, ar = some ad → ad.block < wr.heap.size) := by
        obtain ⟨β, nx, Z, al, cl, kk, A, ar, cr, h1, h2, h3, h4, h5⟩ := H.out
        exact ⟨β, nx, Z, al, cl, kk, A, ar, cr, h1.below B1, h2, h3, h4, h5, h1.lg.lt, h1.rf.lt, fun ad e => (h1.lg.row ad e).2, fun ad e => (h1.rf.row ad e).2⟩
      clear A0 B1 X1 He H
      go_upto_region 11 with fail
      obtain ⟨q, hq⟩ : ∃ q, wr.heap.size = q := ⟨_, rfl⟩
      rw [hq] at HXO HG ⊢
      clear hq hld hst x4
      go_cut [74] from 33 to 104 (fun s wx => s = .bool false ∧ Hid (Inv w1 wx gl gr m n0 (2 * k) (k + 1) lo lc F wo wcc W X))
      case first =>
        obtain ⟨β, nx, Z, al, cl, kk, A, ar, cr, h1, h2, h3, h4, h5, h6, h7, h8, h9⟩ := HG.out
        clear HG
        have HSt := hide h1
        have HAg := hide h2
        have HA := hide h3
        have HZl := hide h4
        have HF := hide h5
        have HQ : Hid (gl < q ∧ gr < q ∧ (∀ ad, al = some ad → ad.block < q) ∧ ∀ ad, ar = some ad → ad.block < q) := ⟨h6, h7, h8, h9⟩
        clear h1 h2 h3 h4 h5 h6 h7 h8 h9
        by_cases hk1 : e.kind = 1
        · have d1 : (e.kind == 1) = true := by simp [hk1]
          have d5 : (e.kind == 5) = false := by simp [hk1]
          clear hk1
          refine wp_region_held_drew (S := fun W => OC W q e) (by kernel_rfl) ((show OC wk.drew q e from HXO.out.oc)) (fun hHeld => ?_)
          refine wpAnyH_take (i := 0) (oi := { dst := some 45, op := Op.fieldAddr 32 (Operand.tmp 8) 0, type := 0, pos := "law.go:358", after := #[], guard := none }) (v := ?_) rfl (by kernel_rfl) (by kernel_rfl) (by kernel_rfl) (fun _ _ _ h => h) (Or.inl ⟨by rfl, ?_⟩) (by assumption) ?_
          rotate_left
          · (intro w hSw; (try dsimp only at hSw); go_simp); first | done | with_reducible rfl
          simp only [Act.put, List.setIfInBounds_toArray, List.set_cons_zero, List.set_cons_succ]
          refine wpAnyH_take (i := 1) (oi := { dst := some 46, op := Op.load 3 (Operand.tmp 45), type := 3, pos := "law.go:358", after := #[{ on := 0, ground := Ground.data }], guard := none }) (v := ?_) rfl (by kernel_rfl) (by kernel_rfl) (by kernel_rfl) (fun _ _ _ h => h) (Or.inl ⟨by rfl, ?_⟩) (by assumption) ?_
          rotate_left
          · (intro w hSw; (try dsimp only at hSw); obtain ⟨hk0, hk2, hk3⟩ := hSw; go_simp); first | done | with_reducible rfl
          simp only [Act.put, List.setIfInBounds_toArray, List.set_cons_zero, List.set_cons_succ]
          refine wpAnyH_take (i := 2) (oi := { dst := some 47, op := Op.binOp BinOp.eql 3 (Operand.tmp 46) (Operand.const (Value.int IntKind.i64 1)) 3, type := 4, pos := "law.go:358", after := #[{ on := 1, ground := Ground.data }], guard := none }) (v := ?_) rfl (by kernel_rfl) (by kernel_rfl) (by kernel_rfl) (fun _ _ _ h => h) (Or.inl ⟨by rfl, ?_⟩) (by assumption) ?_
          rotate_left
          · (intro w hSw; (try dsimp only at hSw); go_simp); first | done | with_reducible rfl
          simp only [Act.put, List.setIfInBounds_toArray, List.set_cons_zero, List.set_cons_succ]
          refine wpAnyH_take (i := 3) (oi := { dst := some 48, op := Op.move (Operand.tmp 47), type := 4, pos := "law.go:358", after := #[{ on := 2, ground := Ground.data }], guard := none }) (v := ?_) rfl (by kernel_rfl) (by kernel_rfl) (by kernel_rfl) (fun _ _ _ h => h) (Or.inl ⟨by rfl, ?_⟩) (by assumption) ?_
          rotate_left
          · (intro w hSw; (try dsimp only at hSw); go_simp); first | done | with_reducible rfl
          simp only [Act.put, List.setIfInBounds_toArray, List.set_cons_zero, List.set_cons_succ]
          refine wpAnyH_take (i := 4) (oi := { dst := some 49, op := Op.move (Operand.tmp 3), type := 26, pos := "law.go:358", after := #[{ on := 3, ground := Ground.guard }], guard := some (3, true) }) (v := ?_) rfl (by kernel_rfl) (by kernel_rfl) (by kernel_rfl) (fun _ _ _ h => h) (Or.inl ⟨by rfl, ?_⟩) (by assumption) ?_
          rotate_left
          · (intro w hSw; (try dsimp only at hSw); go_simp); first | done | with_reducible rfl
          simp only [Act.put, List.setIfInBounds_toArray, List.set_cons_zero, List.set_cons_succ]
          refine wpAnyH_take (i := 5) (oi := { dst := some 50, op := Op.fieldAddr 32 (Operand.tmp 8) 3, type := 0, pos := "law.go:358", after := #[{ on := 3, ground := Ground.guard }], guard := some (3, true) }) (v := ?_) rfl (by kernel_rfl) (by kernel_rfl) (by kernel_rfl) (fun _ _ _ h => h) (Or.inl ⟨by rfl, ?_⟩) (by assumption) ?_
          rotate_left
          · (intro w hSw; (try dsimp only at hSw); go_simp); first | done | with_reducible rfl
          simp only [Act.put, List.setIfInBounds_toArray, List.set_cons_zero, List.set_cons_succ]
          refine wpAnyH_take (i := 6) (oi := { dst := some 51, op := Op.load 3 (Operand.tmp 50), type := 3, pos := "law.go:358", after := #[{ on := 5, ground := Ground.data }, { on := 3, ground := Ground.guard }], guard := some (3, true) }) (v := ?_) rfl (by kernel_rfl) (by kernel_rfl) (by kernel_rfl) (fun _ _ _ h => h) (Or.inl ⟨by rfl, ?_⟩) (by assumption) ?_
          rotate_left
          · (intro w hSw; (try dsimp only at hSw); obtain ⟨hk0, hk2, hk3⟩ := hSw; go_simp); first | done | with_reducible rfl
          simp only [Act.put, List.setIfInBounds_toArray, List.set_cons_zero, List.set_cons_succ]
          refine wpAnyH_take (i := 8) (oi := { dst := some 53, op := Op.move (Operand.tmp 4), type := 28, pos := "law.go:358", after := #[{ on := 3, ground := Ground.guard }], guard := some (3, true) }) (v := ?_) rfl (by kernel_rfl) (by kernel_rfl) (by kernel_rfl) (fun _ _ _ h => h) (Or.inl ⟨by rfl, ?_⟩) (by assumption) ?_
          rotate_left
          · (intro w hSw; (try dsimp only at hSw); go_simp); first | done | with_reducible rfl
          simp only [Act.put, List.setIfInBounds_toArray, List.set_cons_zero, List.set_cons_succ]
          refine wpAnyH_take (i := 9) (oi := { dst := some 54, op := Op.fieldAddr 32 (Operand.tmp 8) 3, type := 0, pos := "law.go:358", after := #[{ on := 3, ground := Ground.guard }], guard := some (3, true) }) (v := ?_) rfl (by kernel_rfl) (by kernel_rfl) (by kernel_rfl) (fun _ _ _ h => h) (Or.inl ⟨by rfl, ?_⟩) (by assumption) ?_
          rotate_left
          · (intro w hSw; (try dsimp only at hSw); go_simp); first | done | with_reducible rfl
          simp only [Act.put, List.setIfInBounds_toArray, List.set_cons_zero, List.set_cons_succ]
          refine wpAnyH_take (i := 10) (oi := { dst := some 55, op := Op.load 3 (Operand.tmp 54), type := 3, pos := "law.go:358", after := #[{ on := 9, ground := Ground.data }, { on := 3, ground := Ground.guard }], guard := some (3, true) }) (v := ?_) rfl (by kernel_rfl) (by kernel_rfl) (by kernel_rfl) (fun _ _ _ h => h) (Or.inl ⟨by rfl, ?_⟩) (by assumption) ?_
          rotate_left
          · (intro w hSw; (try dsimp only at hSw); obtain ⟨hk0, hk2, hk3⟩ := hSw; go_simp); first | done | with_reducible rfl
          simp only [Act.put, List.setIfInBounds_toArray, List.set_cons_zero, List.set_cons_succ]
          refine wpAnyH_ready (rs := [7]) (by kernel_rfl) (by simp) ?_
          refine AllReadyH.cons rfl (fun K hK => ?_) ?_
          rotate_left
          · exact AllReadyH.nil
          go_simp
          go_wp2_with fail
          refine (push_any wk.drew (HSt.out.below (below_drew1 wk)).lg HAg.out.bd HZl.out (by have h1 := HAg.out.nx; have h2 := HAg.out.rb.s1; have h3 := HAg.out.rb.l; omega) e.x).mono ?_
          rintro e' w5 ⟨bo, cap2, rfl, L5, K5, N5⟩
          obtain ⟨β5, S5⟩ := (HSt.out.below (below_drew1 wk)).logS L5 K5 N5
          have HX5 : Hid (DBox w5 q e) := box_kp (w := wk.drew) HXO.out K5 (by have := HQ.out.1; omega) (fun ad ea => by have := HQ.out.2.2.1 ad ea; omega)
          have HS5 := hide S5
          refine hK.out _ _ HX5.out.oc (fun hHeld => ?_)
          clear hK K L5 K5 N5 S5
          refine wpAnyH_ready (rs := [11]) (by kernel_rfl) (by simp) ?_
          refine AllReadyH.cons rfl (fun K hK => ?_) ?_
          rotate_left
          · exact AllReadyH.nil
          go_simp
          go_wp2_with fail
          refine (rpush_any w5 HS5.out.rf HAg.out.rb (by have := HA.out; omega) e.x).mono ?_
          rintro e' w6 ⟨bo6, cap6, rfl, R6, K6, N6⟩
          rw [← HAg.out.nx]
          obtain ⟨k', ek, ag', zl⟩ := HAg.out.push e.x (by have := HA.out; omega) HZl.out
          rw [← ek] at R6
          obtain ⟨β6, S6⟩ := HS5.out.refS R6 K6 N6
          have HX6 : Hid (DBox w6 q e) := box_kp HX5.out K6 (by have := HQ.out.2.1; omega) (fun ad ea => by have := HQ.out.2.2.2 ad ea; omega)
          have HN1 : Hid (Inv w1 w6 gl gr m n0 (2 * k) (k + 1) lo lc F wo wcc W X) := ⟨β6, _, _, _, _, k', _, _, _, S6, ag', by have := HA.out; simp; omega, zl, HF.out⟩
          refine hK.out _ _ HX6.out.oc (fun hHeld => ?_)
          clear hK K R6 K6 N6 S6 ek ag' zl
          refine wpAnyH_take (i := 12) (oi := { dst := some 57, op := Op.binOp BinOp.neq 3 (Operand.tmp 52) (Operand.tmp 56) 3, type := 4, pos := "law.go:358", after := #[{ on := 7, ground := Ground.data }, { on := 11, ground := Ground.data }, { on := 3, ground := Ground.guard }], guard := some (3, true) }) (v := ?_) rfl (by kernel_rfl) (by kernel_rfl) (by kernel_rfl) (fun _ _ _ h => h) (Or.inl ⟨by rfl, ?_⟩) (by assumption) ?_
          rotate_left
          · (intro w hSw; (try dsimp only at hSw); go_simp); first | done | with_reducible rfl
          simp only [Act.put, List.setIfInBounds_toArray, List.set_cons_zero, List.set_cons_succ]
          refine wpAnyH_take (i := 13) (oi := { dst := some 58, op := Op.pick (Operand.tmp 48) (Operand.tmp 57) (Operand.const (Value.bool false)), type := 4, pos := "law.go:358", after := #[{ on := 3, ground := Ground.data }, { on := 12, ground := Ground.data }], guard := none }) (v := ?_) rfl (by kernel_rfl) (by kernel_rfl) (by kernel_rfl) (fun _ _ _ h => h) (Or.inl ⟨by rfl, ?_⟩) (by assumption) ?_
          rotate_left
          · (intro w hSw; (try dsimp only at hSw); go_simp); first | done | with_reducible rfl
          simp only [Act.put, List.setIfInBounds_toArray, List.set_cons_zero, List.set_cons_succ]
          refine wpAnyH_take (i := 14) (oi := { dst := some 59, op := Op.move (Operand.tmp 58), type := 4, pos := "law.go:358", after := #[{ on := 13, ground := Ground.data }, { on := 11, ground := Ground.chain }], guard := none }) (v := ?_) rfl (by kernel_rfl) (by kernel_rfl) (by kernel_rfl) (fun _ _ _ h => h) (Or.inl ⟨by rfl, ?_⟩) (by assumption) ?_
          rotate_left
          · (intro w hSw; (try dsimp only at hSw); go_simp); first | done | with_reducible rfl
          simp only [Act.put, List.setIfInBounds_toArray, List.set_cons_zero, List.set_cons_succ]
          refine wpAnyH_take (i := 15) (oi := { dst := some 60, op := Op.fieldAddr 32 (Operand.tmp 8) 0, type := 0, pos := "law.go:358", after := #[{ on := 14, ground := Ground.guard }], guard := some (14, false) }) (v := ?_) rfl (by kernel_rfl) (by kernel_rfl) (by kernel_rfl) (fun _ _ _ h => h) (Or.inl ⟨by rfl, ?_⟩) (by assumption) ?_
          rotate_left
          · (intro w hSw; (try dsimp only at hSw); go_simp); first | done | with_reducible rfl
          simp only [Act.put, List.setIfInBounds_toArray, List.set_cons_zero, List.set_cons_succ]
          refine wpAnyH_take (i := 16) (oi := { dst := some 61, op := Op.load 3 (Operand.tmp 60), type := 3, pos := "law.go:358", after := #[{ on := 15, ground := Ground.data }, { on := 14, ground := Ground.guard }], guard := some (14, false) }) (v := ?_) rfl (by kernel_rfl) (by kernel_rfl) (by kernel_rfl) (fun _ _ _ h => h) (Or.inl ⟨by rfl, ?_⟩) (by assumption) ?_
          rotate_left
          · (intro w hSw; (try dsimp only at hSw); obtain ⟨hk0, hk2, hk3⟩ := hSw; go_simp); first | done | with_reducible rfl
          simp only [Act.put, List.setIfInBounds_toArray, List.set_cons_zero, List.set_cons_succ]
          refine wpAnyH_take (i := 17) (oi := { dst := some 62, op := Op.binOp BinOp.eql 3 (Operand.tmp 61) (Operand.const (Value.int IntKind.i64 5)) 3, type := 4, pos := "law.go:358", after := #[{ on := 16, ground := Ground.data }, { on := 14, ground := Ground.guard }], guard := some (14, false) }) (v := ?_) rfl (by kernel_rfl) (by kernel_rfl) (by kernel_rfl) (fun _ _ _ h => h) (Or.inl ⟨by rfl, ?_⟩) (by assumption) ?_
          rotate_left
          · (intro w hSw; (try dsimp only at hSw); go_simp); first | done | with_reducible rfl
          simp only [Act.put, List.setIfInBounds_toArray, List.set_cons_zero, List.set_cons_succ]
          refine wpAnyH_take (i := 18) (oi := { dst := some 63, op := Op.move (Operand.tmp 62), type := 4, pos := "law.go:358", after := #[{ on := 17, ground := Ground.data }, { on := 14, ground := Ground.chain }, { on := 14, ground := Ground.guard }], guard := some (14, false) }) (v := ?_) rfl (by kernel_rfl) (by kernel_rfl) (by kernel_rfl) (fun _ _ _ h => h) (Or.inl ⟨by rfl, ?_⟩) (by assumption) ?_
          rotate_left
          · (intro w hSw; (try dsimp only at hSw); go_simp); first | done | with_reducible rfl
          simp only [Act.put, List.setIfInBounds_toArray, List.set_cons_zero, List.set_cons_succ]
          refine wpAnyH_take (i := 19) (oi := { dst := some 64, op := Op.move (Operand.tmp 3), type := 26, pos := "law.go:358", after := #[{ on := 18, ground := Ground.guard }], guard := some (18, true) }) (v := undef) rfl (by kernel_rfl) (by kernel_rfl) (by kernel_rfl) (fun _ _ _ h => h) (Or.inr ⟨by rfl, by rfl⟩) (by assumption) ?_
          simp only [Act.put, List.setIfInBounds_toArray, List.set_cons_zero, List.set_cons_succ]
          refine wpAnyH_take (i := 20) (oi := { dst := some 65, op := Op.fieldAddr 32 (Operand.tmp 8) 2, type := 0, pos := "law.go:358", after := #[{ on := 18, ground := Ground.guard }], guard := some (18, true) }) (v := undef) rfl (by kernel_rfl) (by kernel_rfl) (by kernel_rfl) (fun _ _ _ h => h) (Or.inr ⟨by rfl, by rfl⟩) (by assumption) ?_
          simp only [Act.put, List.setIfInBounds_toArray, List.set_cons_zero, List.set_cons_succ]
          refine wpAnyH_take (i := 21) (oi := { dst := some 66, op := Op.load 3 (Operand.tmp 65), type := 3, pos := "law.go:358", after := #[{ on := 20, ground := Ground.data }, { on := 18, ground := Ground.guard }], guard := some (18, true) }) (v := undef) rfl (by kernel_rfl) (by kernel_rfl) (by kernel_rfl) (fun _ _ _ h => h) (Or.inr ⟨by rfl, by rfl⟩) (by assumption) ?_
          simp only [Act.put, List.setIfInBounds_toArray, List.set_cons_zero, List.set_cons_succ]
          refine wpAnyH_take (i := 22) (oi := { dst := some 67, op := Op.call { callee := Callee.value (Operand.func 9), args := #[Operand.tmp 64, Operand.tmp 66], argTypes := #[26, 3] }, type := 3, pos := "law.go:358", after := #[{ on := 19, ground := Ground.data }, { on := 21, ground := Ground.data }, { on := 18, ground := Ground.chain }, { on := 18, ground := Ground.guard }], guard := some (18, true) }) (v := undef) rfl (by kernel_rfl) (by kernel_rfl) (by kernel_rfl) (fun _ _ _ h => h) (Or.inr ⟨by rfl, by rfl⟩) (by assumption) ?_
          simp only [Act.put, List.setIfInBounds_toArray, List.set_cons_zero, List.set_cons_succ]
          refine wpAnyH_take (i := 23) (oi := { dst := some 68, op := Op.move (Operand.tmp 4), type := 28, pos := "law.go:358", after := #[{ on := 18, ground := Ground.guard }], guard := some (18, true) }) (v := undef) rfl (by kernel_rfl) (by kernel_rfl) (by kernel_rfl) (fun _ _ _ h => h) (Or.inr ⟨by rfl, by rfl⟩) (by assumption) ?_
          simp only [Act.put, List.setIfInBounds_toArray, List.set_cons_zero, List.set_cons_succ]
          refine wpAnyH_take (i := 24) (oi := { dst := some 69, op := Op.fieldAddr 32 (Operand.tmp 8) 2, type := 0, pos := "law.go:358", after := #[{ on := 18, ground := Ground.guard }], guard := some (18, true) }) (v := undef) rfl (by kernel_rfl) (by kernel_rfl) (by kernel_rfl) (fun _ _ _ h => h) (Or.inr ⟨by rfl, by rfl⟩) (by assumption) ?_
          simp only [Act.put, List.setIfInBounds_toArray, List.set_cons_zero, List.set_cons_succ]
          refine wpAnyH_take (i := 25) (oi := { dst := some 70, op := Op.load 3 (Operand.tmp 69), type := 3, pos := "law.go:358", after := #[{ on := 24, ground := Ground.data }, { on := 18, ground := Ground.guard }], guard := some (18, true) }) (v := undef) rfl (by kernel_rfl) (by kernel_rfl) (by kernel_rfl) (fun _ _ _ h => h) (Or.inr ⟨by rfl, by rfl⟩) (by assumption) ?_
          simp only [Act.put, List.setIfInBounds_toArray, List.set_cons_zero, List.set_cons_succ]
          refine wpAnyH_take (i := 26) (oi := { dst := some 71, op := Op.call { callee := Callee.value (Operand.func 10), args := #[Operand.tmp 68, Operand.tmp 70], argTypes := #[28, 3] }, type := 3, pos := "law.go:358", after := #[{ on := 23, ground := Ground.data }, { on := 25, ground := Ground.data }, { on := 22, ground := Ground.chain }, { on := 18, ground := Ground.guard }], guard := some (18, true) }) (v := undef) rfl (by kernel_rfl) (by kernel_rfl) (by kernel_rfl) (fun _ _ _ h => h) (Or.inr ⟨by rfl, by rfl⟩) (by assumption) ?_
          simp only [Act.put, List.setIfInBounds_toArray, List.set_cons_zero, List.set_cons_succ]
          refine wpAnyH_take (i := 27) (oi := { dst := some 72, op := Op.binOp BinOp.neq 3 (Operand.tmp 67) (Operand.tmp 71) 3, type := 4, pos := "law.go:358", after := #[{ on := 22, ground := Ground.data }, { on := 26, ground := Ground.data }, { on := 18, ground := Ground.guard }], guard := some (18, true) }) (v := undef) rfl (by kernel_rfl) (by kernel_rfl) (by kernel_rfl) (fun _ _ _ h => h) (Or.inr ⟨by rfl, by rfl⟩) (by assumption) ?_
          simp only [Act.put, List.setIfInBounds_toArray, List.set_cons_zero, List.set_cons_succ]
          refine wpAnyH_take (i := 28) (oi := { dst := some 73, op := Op.pick (Operand.tmp 63) (Operand.tmp 72) (Operand.const (Value.bool false)), type := 4, pos := "law.go:358", after := #[{ on := 18, ground := Ground.data }, { on := 27, ground := Ground.data }, { on := 14, ground := Ground.guard }], guard := some (14, false) }) (v := ?_) rfl (by kernel_rfl) (by kernel_rfl) (by kernel_rfl) (fun _ _ _ h => h) (Or.inl ⟨by rfl, ?_⟩) (by assumption) ?_
          rotate_left
          · (intro w hSw; (try dsimp only at hSw); go_simp); first | done | with_reducible rfl
          simp only [Act.put, List.setIfInBounds_toArray, List.set_cons_zero, List.set_cons_succ]
          refine wpAnyH_take (i := 29) (oi := { dst := some 74, op := Op.pick (Operand.tmp 59) (Operand.const (Value.bool true)) (Operand.tmp 73), type := 4, pos := "law.go:358", after := #[{ on := 14, ground := Ground.data }, { on := 28, ground := Ground.data }], guard := none }) (v := ?_) rfl (by kernel_rfl) (by kernel_rfl) (by kernel_rfl) (fun _ _ _ h => h) (Or.inl ⟨by rfl, ?_⟩) (by assumption) ?_
          rotate_left
          · (intro w hSw; (try dsimp only at hSw); go_simp); first | done | with_reducible rfl
          simp only [Act.put, List.setIfInBounds_toArray, List.set_cons_zero, List.set_cons_succ]
          refine wpAnyH_done (by kernel_rfl) ?_ _
          clear hHeld
          go_wp2_with fail
          go_meet
          case rel => exact ⟨rfl, HN1⟩
        · by_cases hk5 : e.kind = 5
          · have d1 : (e.kind == 1) = false := by simp [hk5]
            have d5 : (e.kind == 5) = true := by simp [hk5]
            clear hk1 hk5
            refine wp_region_held_drew (S := fun W => OC W q e) (by kernel_rfl) ((show OC wk.drew q e from HXO.out.oc)) (fun hHeld => ?_)
            refine wpAnyH_take (i := 0) (oi := { dst := some 45, op := Op.fieldAddr 32 (Operand.tmp 8) 0, type := 0, pos := "law.go:358", after := #[], guard := none }) (v := ?_) rfl (by kernel_rfl) (by kernel_rfl) (by kernel_rfl) (fun _ _ _ h => h) (Or.inl ⟨by rfl, ?_⟩) (by assumption) ?_
            rotate_left
            · (intro w hSw; (try dsimp only at hSw); go_simp); first | done | with_reducible rfl
            simp only [Act.put, List.setIfInBounds_toArray, List.set_cons_zero, List.set_cons_succ]
            refine wpAnyH_take (i := 1) (oi := { dst := some 46, op := Op.load 3 (Operand.tmp 45), type := 3, pos := "law.go:358", after := #[{ on := 0, ground := Ground.data }], guard := none }) (v := ?_) rfl (by kernel_rfl) (by kernel_rfl) (by kernel_rfl) (fun _ _ _ h => h) (Or.inl ⟨by rfl, ?_⟩) (by assumption) ?_
            rotate_left
            · (intro w hSw; (try dsimp only at hSw); obtain ⟨hk0, hk2, hk3⟩ := hSw; go_simp); first | done | with_reducible rfl
            simp only [Act.put, List.setIfInBounds_toArray, List.set_cons_zero, List.set_cons_succ]
            refine wpAnyH_take (i := 2) (oi := { dst := some 47, op := Op.binOp BinOp.eql 3 (Operand.tmp 46) (Operand.const (Value.int IntKind.i64 1)) 3, type := 4, pos := "law.go:358", after := #[{ on := 1, ground := Ground.data }], guard := none }) (v := ?_) rfl (by kernel_rfl) (by kernel_rfl) (by kernel_rfl) (fun _ _ _ h => h) (Or.inl ⟨by rfl, ?_⟩) (by assumption) ?_
            rotate_left
            · (intro w hSw; (try dsimp only at hSw); go_simp); first | done | with_reducible rfl
            simp only [Act.put, List.setIfInBounds_toArray, List.set_cons_zero, List.set_cons_succ]
            refine wpAnyH_take (i := 3) (oi := { dst := some 48, op := Op.move (Operand.tmp 47), type := 4, pos := "law.go:358", after := #[{ on := 2, ground := Ground.data }], guard := none }) (v := ?_) rfl (by kernel_rfl) (by kernel_rfl) (by kernel_rfl) (fun _ _ _ h => h) (Or.inl ⟨by rfl, ?_⟩) (by assumption) ?_
            rotate_left
            · (intro w hSw; (try dsimp only at hSw); go_simp); first | done | with_reducible rfl
            simp only [Act.put, List.setIfInBounds_toArray, List.set_cons_zero, List.set_cons_succ]
            refine wpAnyH_take (i := 4) (oi := { dst := some 49, op := Op.move (Operand.tmp 3), type := 26, pos := "law.go:358", after := #[{ on := 3, ground := Ground.guard }], guard := some (3, true) }) (v := undef) rfl (by kernel_rfl) (by kernel_rfl) (by kernel_rfl) (fun _ _ _ h => h) (Or.inr ⟨by rfl, by rfl⟩) (by assumption) ?_
            simp only [Act.put, List.setIfInBounds_toArray, List.set_cons_zero, List.set_cons_succ]
            refine wpAnyH_take (i := 5) (oi := { dst := some 50, op := Op.fieldAddr 32 (Operand.tmp 8) 3, type := 0, pos := "law.go:358", after := #[{ on := 3, ground := Ground.guard }], guard := some (3, true) }) (v := undef) rfl (by kernel_rfl) (by kernel_rfl) (by kernel_rfl) (fun _ _ _ h => h) (Or.inr ⟨by rfl, by rfl⟩) (by assumption) ?_
            simp only [Act.put, List.setIfInBounds_toArray, List.set_cons_zero, List.set_cons_succ]
            refine wpAnyH_take (i := 6) (oi := { dst := some 51, op := Op.load 3 (Operand.tmp 50), type := 3, pos := "law.go:358", after := #[{ on := 5, ground := Ground.data }, { on := 3, ground := Ground.guard }], guard := some (3, true) }) (v := undef) rfl (by kernel_rfl) (by kernel_rfl) (by kernel_rfl) (fun _ _ _ h => h) (Or.inr ⟨by rfl, by rfl⟩) (by assumption) ?_
            simp only [Act.put, List.setIfInBounds_toArray, List.set_cons_zero, List.set_cons_succ]
            refine wpAnyH_take (i := 7) (oi := { dst := some 52, op := Op.call { callee := Callee.value (Operand.func 7), args := #[Operand.tmp 49, Operand.tmp 51], argTypes := #[26, 3] }, type := 3, pos := "law.go:358", after := #[{ on := 4, ground := Ground.data }, { on := 6, ground := Ground.data }, { on := 3, ground := Ground.chain }, { on := 3, ground := Ground.guard }], guard := some (3, true) }) (v := undef) rfl (by kernel_rfl) (by kernel_rfl) (by kernel_rfl) (fun _ _ _ h => h) (Or.inr ⟨by rfl, by rfl⟩) (by assumption) ?_
            simp only [Act.put, List.setIfInBounds_toArray, List.set_cons_zero, List.set_cons_succ]
            refine wpAnyH_take (i := 8) (oi := { dst := some 53, op := Op.move (Operand.tmp 4), type := 28, pos := "law.go:358", after := #[{ on := 3, ground := Ground.guard }], guard := some (3, true) }) (v := undef) rfl (by kernel_rfl) (by kernel_rfl) (by kernel_rfl) (fun _ _ _ h => h) (Or.inr ⟨by rfl, by rfl⟩) (by assumption) ?_
            simp only [Act.put, List.setIfInBounds_toArray, List.set_cons_zero, List.set_cons_succ]
            refine wpAnyH_take (i := 9) (oi := { dst := some 54, op := Op.fieldAddr 32 (Operand.tmp 8) 3, type := 0, pos := "law.go:358", after := #[{ on := 3, ground := Ground.guard }], guard := some (3, true) }) (v := undef) rfl (by kernel_rfl) (by kernel_rfl) (by kernel_rfl) (fun _ _ _ h => h) (Or.inr ⟨by rfl, by rfl⟩) (by assumption) ?_
            simp only [Act.put, List.setIfInBounds_toArray, List.set_cons_zero, List.set_cons_succ]
            refine wpAnyH_take (i := 10) (oi := { dst := some 55, op := Op.load 3 (Operand.tmp 54), type := 3, pos := "law.go:358", after := #[{ on := 9, ground := Ground.data }, { on := 3, ground := Ground.guard }], guard := some (3, true) }) (v := undef) rfl (by kernel_rfl) (by kernel_rfl) (by kernel_rfl) (fun _ _ _ h => h) (Or.inr ⟨by rfl, by rfl⟩) (by assumption) ?_
            simp only [Act.put, List.setIfInBounds_toArray, List.set_cons_zero, List.set_cons_succ]
            refine wpAnyH_take (i := 11) (oi := { dst := some 56, op := Op.call { callee := Callee.value (Operand.func 8), args := #[Operand.tmp 53, Operand.tmp 55], argTypes := #[28, 3] }, type := 3, pos := "law.go:358", after := #[{ on := 8, ground := Ground.data }, { on := 10, ground := Ground.data }, { on := 7, ground := Ground.chain }, { on := 3, ground := Ground.guard }], guard := some (3, true) }) (v := undef) rfl (by kernel_rfl) (by kernel_rfl) (by kernel_rfl) (fun _ _ _ h => h) (Or.inr ⟨by rfl, by rfl⟩) (by assumption) ?_
            simp only [Act.put, List.setIfInBounds_toArray, List.set_cons_zero, List.set_cons_succ]
            refine wpAnyH_take (i := 12) (oi := { dst := some 57, op := Op.binOp BinOp.neq 3 (Operand.tmp 52) (Operand.tmp 56) 3, type := 4, pos := "law.go:358", after := #[{ on := 7, ground := Ground.data }, { on := 11, ground := Ground.data }, { on := 3, ground := Ground.guard }], guard := some (3, true) }) (v := undef) rfl (by kernel_rfl) (by kernel_rfl) (by kernel_rfl) (fun _ _ _ h => h) (Or.inr ⟨by rfl, by rfl⟩) (by assumption) ?_
            simp only [Act.put, List.setIfInBounds_toArray, List.set_cons_zero, List.set_cons_succ]
            refine wpAnyH_take (i := 13) (oi := { dst := some 58, op := Op.pick (Operand.tmp 48) (Operand.tmp 57) (Operand.const (Value.bool false)), type := 4, pos := "law.go:358", after := #[{ on := 3, ground := Ground.data }, { on := 12, ground := Ground.data }], guard := none }) (v := ?_) rfl (by kernel_rfl) (by kernel_rfl) (by kernel_rfl) (fun _ _ _ h => h) (Or.inl ⟨by rfl, ?_⟩) (by assumption) ?_
            rotate_left
            · (intro w hSw; (try dsimp only at hSw); go_simp); first | done | with_reducible rfl
            simp only [Act.put, List.setIfInBounds_toArray, List.set_cons_zero, List.set_cons_succ]
            refine wpAnyH_take (i := 14) (oi := { dst := some 59, op := Op.move (Operand.tmp 58), type := 4, pos := "law.go:358", after := #[{ on := 13, ground := Ground.data }, { on := 11, ground := Ground.chain }], guard := none }) (v := ?_) rfl (by kernel_rfl) (by kernel_rfl) (by kernel_rfl) (fun _ _ _ h => h) (Or.inl ⟨by rfl, ?_⟩) (by assumption) ?_
            rotate_left
            · (intro w hSw; (try dsimp only at hSw); go_simp); first | done | with_reducible rfl
            simp only [Act.put, List.setIfInBounds_toArray, List.set_cons_zero, List.set_cons_succ]
            refine wpAnyH_take (i := 15) (oi := { dst := some 60, op := Op.fieldAddr 32 (Operand.tmp 8) 0, type := 0, pos := "law.go:358", after := #[{ on := 14, ground := Ground.guard }], guard := some (14, false) }) (v := ?_) rfl (by kernel_rfl) (by kernel_rfl) (by kernel_rfl) (fun _ _ _ h => h) (Or.inl ⟨by rfl, ?_⟩) (by assumption) ?_
            rotate_left
            · (intro w hSw; (try dsimp only at hSw); go_simp); first | done | with_reducible rfl
            simp only [Act.put, List.setIfInBounds_toArray, List.set_cons_zero, List.set_cons_succ]
            refine wpAnyH_take (i := 16) (oi := { dst := some 61, op := Op.load 3 (Operand.tmp 60), type := 3, pos := "law.go:358", after := #[{ on := 15, ground := Ground.data }, { on := 14, ground := Ground.guard }], guard := some (14, false) }) (v := ?_) rfl (by kernel_rfl) (by kernel_rfl) (by kernel_rfl) (fun _ _ _ h => h) (Or.inl ⟨by rfl, ?_⟩) (by assumption) ?_
            rotate_left
            · (intro w hSw; (try dsimp only at hSw); obtain ⟨hk0, hk2, hk3⟩ := hSw; go_simp); first | done | with_reducible rfl
            simp only [Act.put, List.setIfInBounds_toArray, List.set_cons_zero, List.set_cons_succ]
            refine wpAnyH_take (i := 17) (oi := { dst := some 62, op := Op.binOp BinOp.eql 3 (Operand.tmp 61) (Operand.const (Value.int IntKind.i64 5)) 3, type := 4, pos := "law.go:358", after := #[{ on := 16, ground := Ground.data }, { on := 14, ground := Ground.guard }], guard := some (14, false) }) (v := ?_) rfl (by kernel_rfl) (by kernel_rfl) (by kernel_rfl) (fun _ _ _ h => h) (Or.inl ⟨by rfl, ?_⟩) (by assumption) ?_
            rotate_left
            · (intro w hSw; (try dsimp only at hSw); go_simp); first | done | with_reducible rfl
            simp only [Act.put, List.setIfInBounds_toArray, List.set_cons_zero, List.set_cons_succ]
            refine wpAnyH_take (i := 18) (oi := { dst := some 63, op := Op.move (Operand.tmp 62), type := 4, pos := "law.go:358", after := #[{ on := 17, ground := Ground.data }, { on := 14, ground := Ground.chain }, { on := 14, ground := Ground.guard }], guard := some (14, false) }) (v := ?_) rfl (by kernel_rfl) (by kernel_rfl) (by kernel_rfl) (fun _ _ _ h => h) (Or.inl ⟨by rfl, ?_⟩) (by assumption) ?_
            rotate_left
            · (intro w hSw; (try dsimp only at hSw); go_simp); first | done | with_reducible rfl
            simp only [Act.put, List.setIfInBounds_toArray, List.set_cons_zero, List.set_cons_succ]
            refine wpAnyH_take (i := 19) (oi := { dst := some 64, op := Op.move (Operand.tmp 3), type := 26, pos := "law.go:358", after := #[{ on := 18, ground := Ground.guard }], guard := some (18, true) }) (v := ?_) rfl (by kernel_rfl) (by kernel_rfl) (by kernel_rfl) (fun _ _ _ h => h) (Or.inl ⟨by rfl, ?_⟩) (by assumption) ?_
            rotate_left
            · (intro w hSw; (try dsimp only at hSw); go_simp); first | done | with_reducible rfl
            simp only [Act.put, List.setIfInBounds_toArray, List.set_cons_zero, List.set_cons_succ]
            refine wpAnyH_take (i := 20) (oi := { dst := some 65, op := Op.fieldAddr 32 (Operand.tmp 8) 2, type := 0, pos := "law.go:358", after := #[{ on := 18, ground := Ground.guard }], guard := some (18, true) }) (v := ?_) rfl (by kernel_rfl) (by kernel_rfl) (by kernel_rfl) (fun _ _ _ h => h) (Or.inl ⟨by rfl, ?_⟩) (by assumption) ?_
            rotate_left
            · (intro w hSw; (try dsimp only at hSw); go_simp); first | done | with_reducible rfl
            simp only [Act.put, List.setIfInBounds_toArray, List.set_cons_zero, List.set_cons_succ]
            refine wpAnyH_take (i := 21) (oi := { dst := some 66, op := Op.load 3 (Operand.tmp 65), type := 3, pos := "law.go:358", after := #[{ on := 20, ground := Ground.data }, { on := 18, ground := Ground.guard }], guard := some (18, true) }) (v := ?_) rfl (by kernel_rfl) (by kernel_rfl) (by kernel_rfl) (fun _ _ _ h => h) (Or.inl ⟨by rfl, ?_⟩) (by assumption) ?_
            rotate_left
            · (intro w hSw; (try dsimp only at hSw); obtain ⟨hk0, hk2, hk3⟩ := hSw; go_simp); first | done | with_reducible rfl
            simp only [Act.put, List.setIfInBounds_toArray, List.set_cons_zero, List.set_cons_succ]
            refine wpAnyH_take (i := 23) (oi := { dst := some 68, op := Op.move (Operand.tmp 4), type := 28, pos := "law.go:358", after := #[{ on := 18, ground := Ground.guard }], guard := some (18, true) }) (v := ?_) rfl (by kernel_rfl) (by kernel_rfl) (by kernel_rfl) (fun _ _ _ h => h) (Or.inl ⟨by rfl, ?_⟩) (by assumption) ?_
            rotate_left
            · (intro w hSw; (try dsimp only at hSw); go_simp); first | done | with_reducible rfl
            simp only [Act.put, List.setIfInBounds_toArray, List.set_cons_zero, List.set_cons_succ]
            refine wpAnyH_take (i := 24) (oi := { dst := some 69, op := Op.fieldAddr 32 (Operand.tmp 8) 2, type := 0, pos := "law.go:358", after := #[{ on := 18, ground := Ground.guard }], guard := some (18, true) }) (v := ?_) rfl (by kernel_rfl) (by kernel_rfl) (by kernel_rfl) (fun _ _ _ h => h) (Or.inl ⟨by rfl, ?_⟩) (by assumption) ?_
            rotate_left
            · (intro w hSw; (try dsimp only at hSw); go_simp); first | done | with_reducible rfl
            simp only [Act.put, List.setIfInBounds_toArray, List.set_cons_zero, List.set_cons_succ]
            refine wpAnyH_take (i := 25) (oi := { dst := some 70, op := Op.load 3 (Operand.tmp 69), type := 3, pos := "law.go:358", after := #[{ on := 24, ground := Ground.data }, { on := 18, ground := Ground.guard }], guard := some (18, true) }) (v := ?_) rfl (by kernel_rfl) (by kernel_rfl) (by kernel_rfl) (fun _ _ _ h => h) (Or.inl ⟨by rfl, ?_⟩) (by assumption) ?_
            rotate_left
            · (intro w hSw; (try dsimp only at hSw); obtain ⟨hk0, hk2, hk3⟩ := hSw; go_simp); first | done | with_reducible rfl
            simp only [Act.put, List.setIfInBounds_toArray, List.set_cons_zero, List.set_cons_succ]
            refine wpAnyH_ready (rs := [22]) (by kernel_rfl) (by simp) ?_
            refine AllReadyH.cons rfl (fun K hK => ?_) ?_
            rotate_left
            · exact AllReadyH.nil
            go_simp
            go_wp2_with fail
            refine (trim_any wk.drew (HSt.out.below (below_drew1 wk)).lg HAg.out.bd e.n).mono ?_
            rintro e' w5 ⟨rfl, L5, K5⟩
            obtain ⟨β5, S5⟩ := (HSt.out.below (below_drew1 wk)).logS L5 K5 (fun ad ea => Or.inl ⟨ad, ea, rfl⟩)
            have HX5 : Hid (DBox w5 q e) := box_kp (w := wk.drew) HXO.out K5 (by have := HQ.out.1; omega) (fun ad ea => by have := HQ.out.2.2.1 ad ea; omega)
            have HS5 := hide S5
            refine hK.out _ _ HX5.out.oc (fun hHeld => ?_)
            clear hK K L5 K5 S5
            refine wpAnyH_ready (rs := [26]) (by kernel_rfl) (by simp) ?_
            refine AllReadyH.cons rfl (fun K hK => ?_) ?_
            rotate_left
            · exact AllReadyH.nil
            go_simp
            go_wp2_with fail
            refine (rtrim_any w5 HS5.out.rf HAg.out.rb e.n).mono ?_
            rintro e' w6 ⟨rfl, R6, K6⟩
            obtain ⟨ec, ag'⟩ := HAg.out.trim e.n
            rw [← ec] at R6 ⊢
            obtain ⟨β6, S6⟩ := HS5.out.refS (k' := kk + cutN nx Z e.n) (by simpa using R6) K6 (fun ad ea => Or.inl ⟨ad, ea, rfl⟩)
            have HX6 : Hid (DBox w6 q e) := box_kp HX5.out K6 (by have := HQ.out.2.1; omega) (fun ad ea => by have := HQ.out.2.2.2 ad ea; omega)
            have HN1 : Hid (Inv w1 w6 gl gr m n0 (2 * k) (k + 1) lo lc F wo wcc W X) := ⟨β6, _, _, _, _, _, _, _, _, S6, ag', Nat.le_trans HA.out (by omega), by have := HZl.out; rw [List.length_drop]; omega, HF.out⟩
            refine hK.out _ _ HX6.out.oc (fun hHeld => ?_)
            clear hK K R6 K6 S6 ec ag'
            generalize cutN nx Z e.n = ct
            refine wpAnyH_take (i := 27) (oi := { dst := some 72, op := Op.binOp BinOp.neq 3 (Operand.tmp 67) (Operand.tmp 71) 3, type := 4, pos := "law.go:358", after := #[{ on := 22, ground := Ground.data }, { on := 26, ground := Ground.data }, { on := 18, ground := Ground.guard }], guard := some (18, true) }) (v := ?_) rfl (by kernel_rfl) (by kernel_rfl) (by kernel_rfl) (fun _ _ _ h => h) (Or.inl ⟨by rfl, ?_⟩) (by assumption) ?_
            rotate_left
            · (intro w hSw; (try dsimp only at hSw); go_simp); first | done | with_reducible rfl
            simp only [Act.put, List.setIfInBounds_toArray, List.set_cons_zero, List.set_cons_succ]
            refine wpAnyH_take (i := 28) (oi := { dst := some 73, op := Op.pick (Operand.tmp 63) (Operand.tmp 72) (Operand.const (Value.bool false)), type := 4, pos := "law.go:358", after := #[{ on := 18, ground := Ground.data }, { on := 27, ground := Ground.data }, { on := 14, ground := Ground.guard }], guard := some (14, false) }) (v := ?_) rfl (by kernel_rfl) (by kernel_rfl) (by kernel_rfl) (fun _ _ _ h => h) (Or.inl ⟨by rfl, ?_⟩) (by assumption) ?_
            rotate_left
            · (intro w hSw; (try dsimp only at hSw); go_simp); first | done | with_reducible rfl
            simp only [Act.put, List.setIfInBounds_toArray, List.set_cons_zero, List.set_cons_succ]
            refine wpAnyH_take (i := 29) (oi := { dst := some 74, op := Op.pick (Operand.tmp 59) (Operand.const (Value.bool true)) (Operand.tmp 73), type := 4, pos := "law.go:358", after := #[{ on := 14, ground := Ground.data }, { on := 28, ground := Ground.data }], guard := none }) (v := ?_) rfl (by kernel_rfl) (by kernel_rfl) (by kernel_rfl) (fun _ _ _ h => h) (Or.inl ⟨by rfl, ?_⟩) (by assumption) ?_
            rotate_left
            · (intro w hSw; (try dsimp only at hSw); go_simp); first | done | with_reducible rfl
            simp only [Act.put, List.setIfInBounds_toArray, List.set_cons_zero, List.set_cons_succ]
            refine wpAnyH_done (by kernel_rfl) ?_ _
            clear hHeld
            go_wp2_with fail
            go_meet
            case rel => exact ⟨rfl, HN1⟩
          · have d1 : (e.kind == 1) = false := by simp [hk1]
            have d5 : (e.kind == 5) = false := by simp [hk5]
            clear hk1 hk5
            have HN1 : Hid (Inv w1 wk gl gr m n0 (2 * k) (k + 1) lo lc F wo wcc W X) := ⟨β, nx, Z, al, cl, kk, A, ar, cr, HSt.out, HAg.out, Nat.le_trans HA.out (by omega), HZl.out, HF.out⟩
            refine wp_region_held_drew (S := fun W => OC W q e) (by kernel_rfl) ((show OC wk.drew q e from HXO.out.oc)) (fun hHeld => ?_)
            refine wpAnyH_take (i := 0) (oi := { dst := some 45, op := Op.fieldAddr 32 (Operand.tmp 8) 0, type := 0, pos := "law.go:358", after := #[], guard := none }) (v := ?_) rfl (by kernel_rfl) (by kernel_rfl) (by kernel_rfl) (fun _ _ _ h => h) (Or.inl ⟨by rfl, ?_⟩) (by assumption) ?_
            rotate_left
            · (intro w hSw; (try dsimp only at hSw); go_simp); first | done | with_reducible rfl
            simp only [Act.put, List.setIfInBounds_toArray, List.set_cons_zero, List.set_cons_succ]
            refine wpAnyH_take (i := 1) (oi := { dst := some 46, op := Op.load 3 (Operand.tmp 45), type := 3, pos := "law.go:358", after := #[{ on := 0, ground := Ground.data }], guard := none }) (v := ?_) rfl (by kernel_rfl) (by kernel_rfl) (by kernel_rfl) (fun _ _ _ h => h) (Or.inl ⟨by rfl, ?_⟩) (by assumption) ?_
            rotate_left
            · (intro w hSw; (try dsimp only at hSw); obtain ⟨hk0, hk2, hk3⟩ := hSw; go_simp); first | done | with_reducible rfl
            simp only [Act.put, List.setIfInBounds_toArray, List.set_cons_zero, List.set_cons_succ]
            refine wpAnyH_take (i := 2) (oi := { dst := some 47, op := Op.binOp BinOp.eql 3 (Operand.tmp 46) (Operand.const (Value.int IntKind.i64 1)) 3, type := 4, pos := "law.go:358", after := #[{ on := 1, ground := Ground.data }], guard := none }) (v := ?_) rfl (by kernel_rfl) (by kernel_rfl) (by kernel_rfl) (fun _ _ _ h => h) (Or.inl ⟨by rfl, ?_⟩) (by assumption) ?_
            rotate_left
            · (intro w hSw; (try dsimp only at hSw); go_simp); first | done | with_reducible rfl
            simp only [Act.put, List.setIfInBounds_toArray, List.set_cons_zero, List.set_cons_succ]
            refine wpAnyH_take (i := 3) (oi := { dst := some 48, op := Op.move (Operand.tmp 47), type := 4, pos := "law.go:358", after := #[{ on := 2, ground := Ground.data }], guard := none }) (v := ?_) rfl (by kernel_rfl) (by kernel_rfl) (by kernel_rfl) (fun _ _ _ h => h) (Or.inl ⟨by rfl, ?_⟩) (by assumption) ?_
            rotate_left
            · (intro w hSw; (try dsimp only at hSw); go_simp); first | done | with_reducible rfl
            simp only [Act.put, List.setIfInBounds_toArray, List.set_cons_zero, List.set_cons_succ]
            refine wpAnyH_take (i := 4) (oi := { dst := some 49, op := Op.move (Operand.tmp 3), type := 26, pos := "law.go:358", after := #[{ on := 3, ground := Ground.guard }], guard := some (3, true) }) (v := undef) rfl (by kernel_rfl) (by kernel_rfl) (by kernel_rfl) (fun _ _ _ h => h) (Or.inr ⟨by rfl, by rfl⟩) (by assumption) ?_
            simp only [Act.put, List.setIfInBounds_toArray, List.set_cons_zero, List.set_cons_succ]
            refine wpAnyH_take (i := 5) (oi := { dst := some 50, op := Op.fieldAddr 32 (Operand.tmp 8) 3, type := 0, pos := "law.go:358", after := #[{ on := 3, ground := Ground.guard }], guard := some (3, true) }) (v := undef) rfl (by kernel_rfl) (by kernel_rfl) (by kernel_rfl) (fun _ _ _ h => h) (Or.inr ⟨by rfl, by rfl⟩) (by assumption) ?_
            simp only [Act.put, List.setIfInBounds_toArray, List.set_cons_zero, List.set_cons_succ]
            refine wpAnyH_take (i := 6) (oi := { dst := some 51, op := Op.load 3 (Operand.tmp 50), type := 3, pos := "law.go:358", after := #[{ on := 5, ground := Ground.data }, { on := 3, ground := Ground.guard }], guard := some (3, true) }) (v := undef) rfl (by kernel_rfl) (by kernel_rfl) (by kernel_rfl) (fun _ _ _ h => h) (Or.inr ⟨by rfl, by rfl⟩) (by assumption) ?_
            simp only [Act.put, List.setIfInBounds_toArray, List.set_cons_zero, List.set_cons_succ]
            refine wpAnyH_take (i := 7) (oi := { dst := some 52, op := Op.call { callee := Callee.value (Operand.func 7), args := #[Operand.tmp 49, Operand.tmp 51], argTypes := #[26, 3] }, type := 3, pos := "law.go:358", after := #[{ on := 4, ground := Ground.data }, { on := 6, ground := Ground.data }, { on := 3, ground := Ground.chain }, { on := 3, ground := Ground.guard }], guard := some (3, true) }) (v := undef) rfl (by kernel_rfl) (by kernel_rfl) (by kernel_rfl) (fun _ _ _ h => h) (Or.inr ⟨by rfl, by rfl⟩) (by assumption) ?_
            simp only [Act.put, List.setIfInBounds_toArray, List.set_cons_zero, List.set_cons_succ]
            refine wpAnyH_take (i := 8) (oi := { dst := some 53, op := Op.move (Operand.tmp 4), type := 28, pos := "law.go:358", after := #[{ on := 3, ground := Ground.guard }], guard := some (3, true) }) (v := undef) rfl (by kernel_rfl) (by kernel_rfl) (by kernel_rfl) (fun _ _ _ h => h) (Or.inr ⟨by rfl, by rfl⟩) (by assumption) ?_
            simp only [Act.put, List.setIfInBounds_toArray, List.set_cons_zero, List.set_cons_succ]
            refine wpAnyH_take (i := 9) (oi := { dst := some 54, op := Op.fieldAddr 32 (Operand.tmp 8) 3, type := 0, pos := "law.go:358", after := #[{ on := 3, ground := Ground.guard }], guard := some (3, true) }) (v := undef) rfl (by kernel_rfl) (by kernel_rfl) (by kernel_rfl) (fun _ _ _ h => h) (Or.inr ⟨by rfl, by rfl⟩) (by assumption) ?_
            simp only [Act.put, List.setIfInBounds_toArray, List.set_cons_zero, List.set_cons_succ]
            refine wpAnyH_take (i := 10) (oi := { dst := some 55, op := Op.load 3 (Operand.tmp 54), type := 3, pos := "law.go:358", after := #[{ on := 9, ground := Ground.data }, { on := 3, ground := Ground.guard }], guard := some (3, true) }) (v := undef) rfl (by kernel_rfl) (by kernel_rfl) (by kernel_rfl) (fun _ _ _ h => h) (Or.inr ⟨by rfl, by rfl⟩) (by assumption) ?_
            simp only [Act.put, List.setIfInBounds_toArray, List.set_cons_zero, List.set_cons_succ]
            refine wpAnyH_take (i := 11) (oi := { dst := some 56, op := Op.call { callee := Callee.value (Operand.func 8), args := #[Operand.tmp 53, Operand.tmp 55], argTypes := #[28, 3] }, type := 3, pos := "law.go:358", after := #[{ on := 8, ground := Ground.data }, { on := 10, ground := Ground.data }, { on := 7, ground := Ground.chain }, { on := 3, ground := Ground.guard }], guard := some (3, true) }) (v := undef) rfl (by kernel_rfl) (by kernel_rfl) (by kernel_rfl) (fun _ _ _ h => h) (Or.inr ⟨by rfl, by rfl⟩) (by assumption) ?_
            simp only [Act.put, List.setIfInBounds_toArray, List.set_cons_zero, List.set_cons_succ]
            refine wpAnyH_take (i := 12) (oi := { dst := some 57, op := Op.binOp BinOp.neq 3 (Operand.tmp 52) (Operand.tmp 56) 3, type := 4, pos := "law.go:358", after := #[{ on := 7, ground := Ground.data }, { on := 11, ground := Ground.data }, { on := 3, ground := Ground.guard }], guard := some (3, true) }) (v := undef) rfl (by kernel_rfl) (by kernel_rfl) (by kernel_rfl) (fun _ _ _ h => h) (Or.inr ⟨by rfl, by rfl⟩) (by assumption) ?_
            simp only [Act.put, List.setIfInBounds_toArray, List.set_cons_zero, List.set_cons_succ]
            refine wpAnyH_take (i := 13) (oi := { dst := some 58, op := Op.pick (Operand.tmp 48) (Operand.tmp 57) (Operand.const (Value.bool false)), type := 4, pos := "law.go:358", after := #[{ on := 3, ground := Ground.data }, { on := 12, ground := Ground.data }], guard := none }) (v := ?_) rfl (by kernel_rfl) (by kernel_rfl) (by kernel_rfl) (fun _ _ _ h => h) (Or.inl ⟨by rfl, ?_⟩) (by assumption) ?_
            rotate_left
            · (intro w hSw; (try dsimp only at hSw); go_simp); first | done | with_reducible rfl
            simp only [Act.put, List.setIfInBounds_toArray, List.set_cons_zero, List.set_cons_succ]
            refine wpAnyH_take (i := 14) (oi := { dst := some 59, op := Op.move (Operand.tmp 58), type := 4, pos := "law.go:358", after := #[{ on := 13, ground := Ground.data }, { on := 11, ground := Ground.chain }], guard := none }) (v := ?_) rfl (by kernel_rfl) (by kernel_rfl) (by kernel_rfl) (fun _ _ _ h => h) (Or.inl ⟨by rfl, ?_⟩) (by assumption) ?_
            rotate_left
            · (intro w hSw; (try dsimp only at hSw); go_simp); first | done | with_reducible rfl
            simp only [Act.put, List.setIfInBounds_toArray, List.set_cons_zero, List.set_cons_succ]
            refine wpAnyH_take (i := 15) (oi := { dst := some 60, op := Op.fieldAddr 32 (Operand.tmp 8) 0, type := 0, pos := "law.go:358", after := #[{ on := 14, ground := Ground.guard }], guard := some (14, false) }) (v := ?_) rfl (by kernel_rfl) (by kernel_rfl) (by kernel_rfl) (fun _ _ _ h => h) (Or.inl ⟨by rfl, ?_⟩) (by assumption) ?_
            rotate_left
            · (intro w hSw; (try dsimp only at hSw); go_simp); first | done | with_reducible rfl
            simp only [Act.put, List.setIfInBounds_toArray, List.set_cons_zero, List.set_cons_succ]
            refine wpAnyH_take (i := 16) (oi := { dst := some 61, op := Op.load 3 (Operand.tmp 60), type := 3, pos := "law.go:358", after := #[{ on := 15, ground := Ground.data }, { on := 14, ground := Ground.guard }], guard := some (14, false) }) (v := ?_) rfl (by kernel_rfl) (by kernel_rfl) (by kernel_rfl) (fun _ _ _ h => h) (Or.inl ⟨by rfl, ?_⟩) (by assumption) ?_
            rotate_left
            · (intro w hSw; (try dsimp only at hSw); obtain ⟨hk0, hk2, hk3⟩ := hSw; go_simp); first | done | with_reducible rfl
            simp only [Act.put, List.setIfInBounds_toArray, List.set_cons_zero, List.set_cons_succ]
            refine wpAnyH_take (i := 17) (oi := { dst := some 62, op := Op.binOp BinOp.eql 3 (Operand.tmp 61) (Operand.const (Value.int IntKind.i64 5)) 3, type := 4, pos := "law.go:358", after := #[{ on := 16, ground := Ground.data }, { on := 14, ground := Ground.guard }], guard := some (14, false) }) (v := ?_) rfl (by kernel_rfl) (by kernel_rfl) (by kernel_rfl) (fun _ _ _ h => h) (Or.inl ⟨by rfl, ?_⟩) (by assumption) ?_
            rotate_left
            · (intro w hSw; (try dsimp only at hSw); go_simp); first | done | with_reducible rfl
            simp only [Act.put, List.setIfInBounds_toArray, List.set_cons_zero, List.set_cons_succ]
            refine wpAnyH_take (i := 18) (oi := { dst := some 63, op := Op.move (Operand.tmp 62), type := 4, pos := "law.go:358", after := #[{ on := 17, ground := Ground.data }, { on := 14, ground := Ground.chain }, { on := 14, ground := Ground.guard }], guard := some (14, false) }) (v := ?_) rfl (by kernel_rfl) (by kernel_rfl) (by kernel_rfl) (fun _ _ _ h => h) (Or.inl ⟨by rfl, ?_⟩) (by assumption) ?_
            rotate_left
            · (intro w hSw; (try dsimp only at hSw); go_simp); first | done | with_reducible rfl
            simp only [Act.put, List.setIfInBounds_toArray, List.set_cons_zero, List.set_cons_succ]
            refine wpAnyH_take (i := 19) (oi := { dst := some 64, op := Op.move (Operand.tmp 3), type := 26, pos := "law.go:358", after := #[{ on := 18, ground := Ground.guard }], guard := some (18, true) }) (v := undef) rfl (by kernel_rfl) (by kernel_rfl) (by kernel_rfl) (fun _ _ _ h => h) (Or.inr ⟨by rfl, by rfl⟩) (by assumption) ?_
            simp only [Act.put, List.setIfInBounds_toArray, List.set_cons_zero, List.set_cons_succ]
            refine wpAnyH_take (i := 20) (oi := { dst := some 65, op := Op.fieldAddr 32 (Operand.tmp 8) 2, type := 0, pos := "law.go:358", after := #[{ on := 18, ground := Ground.guard }], guard := some (18, true) }) (v := undef) rfl (by kernel_rfl) (by kernel_rfl) (by kernel_rfl) (fun _ _ _ h => h) (Or.inr ⟨by rfl, by rfl⟩) (by assumption) ?_
            simp only [Act.put, List.setIfInBounds_toArray, List.set_cons_zero, List.set_cons_succ]
            refine wpAnyH_take (i := 21) (oi := { dst := some 66, op := Op.load 3 (Operand.tmp 65), type := 3, pos := "law.go:358", after := #[{ on := 20, ground := Ground.data }, { on := 18, ground := Ground.guard }], guard := some (18, true) }) (v := undef) rfl (by kernel_rfl) (by kernel_rfl) (by kernel_rfl) (fun _ _ _ h => h) (Or.inr ⟨by rfl, by rfl⟩) (by assumption) ?_
            simp only [Act.put, List.setIfInBounds_toArray, List.set_cons_zero, List.set_cons_succ]
            refine wpAnyH_take (i := 22) (oi := { dst := some 67, op := Op.call { callee := Callee.value (Operand.func 9), args := #[Operand.tmp 64, Operand.tmp 66], argTypes := #[26, 3] }, type := 3, pos := "law.go:358", after := #[{ on := 19, ground := Ground.data }, { on := 21, ground := Ground.data }, { on := 18, ground := Ground.chain }, { on := 18, ground := Ground.guard }], guard := some (18, true) }) (v := undef) rfl (by kernel_rfl) (by kernel_rfl) (by kernel_rfl) (fun _ _ _ h => h) (Or.inr ⟨by rfl, by rfl⟩) (by assumption) ?_
            simp only [Act.put, List.setIfInBounds_toArray, List.set_cons_zero, List.set_cons_succ]
            refine wpAnyH_take (i := 23) (oi := { dst := some 68, op := Op.move (Operand.tmp 4), type := 28, pos := "law.go:358", after := #[{ on := 18, ground := Ground.guard }], guard := some (18, true) }) (v := undef) rfl (by kernel_rfl) (by kernel_rfl) (by kernel_rfl) (fun _ _ _ h => h) (Or.inr ⟨by rfl, by rfl⟩) (by assumption) ?_
            simp only [Act.put, List.setIfInBounds_toArray, List.set_cons_zero, List.set_cons_succ]
            refine wpAnyH_take (i := 24) (oi := { dst := some 69, op := Op.fieldAddr 32 (Operand.tmp 8) 2, type := 0, pos := "law.go:358", after := #[{ on := 18, ground := Ground.guard }], guard := some (18, true) }) (v := undef) rfl (by kernel_rfl) (by kernel_rfl) (by kernel_rfl) (fun _ _ _ h => h) (Or.inr ⟨by rfl, by rfl⟩) (by assumption) ?_
            simp only [Act.put, List.setIfInBounds_toArray, List.set_cons_zero, List.set_cons_succ]
            refine wpAnyH_take (i := 25) (oi := { dst := some 70, op := Op.load 3 (Operand.tmp 69), type := 3, pos := "law.go:358", after := #[{ on := 24, ground := Ground.data }, { on := 18, ground := Ground.guard }], guard := some (18, true) }) (v := undef) rfl (by kernel_rfl) (by kernel_rfl) (by kernel_rfl) (fun _ _ _ h => h) (Or.inr ⟨by rfl, by rfl⟩) (by assumption) ?_
            simp only [Act.put, List.setIfInBounds_toArray, List.set_cons_zero, List.set_cons_succ]
            refine wpAnyH_take (i := 26) (oi := { dst := some 71, op := Op.call { callee := Callee.value (Operand.func 10), args := #[Operand.tmp 68, Operand.tmp 70], argTypes := #[28, 3] }, type := 3, pos := "law.go:358", after := #[{ on := 23, ground := Ground.data }, { on := 25, ground := Ground.data }, { on := 22, ground := Ground.chain }, { on := 18, ground := Ground.guard }], guard := some (18, true) }) (v := undef) rfl (by kernel_rfl) (by kernel_rfl) (by kernel_rfl) (fun _ _ _ h => h) (Or.inr ⟨by rfl, by rfl⟩) (by assumption) ?_
            simp only [Act.put, List.setIfInBounds_toArray, List.set_cons_zero, List.set_cons_succ]
            refine wpAnyH_take (i := 27) (oi := { dst := some 72, op := Op.binOp BinOp.neq 3 (Operand.tmp 67) (Operand.tmp 71) 3, type := 4, pos := "law.go:358", after := #[{ on := 22, ground := Ground.data }, { on := 26, ground := Ground.data }, { on := 18, ground := Ground.guard }], guard := some (18, true) }) (v := undef) rfl (by kernel_rfl) (by kernel_rfl) (by kernel_rfl) (fun _ _ _ h => h) (Or.inr ⟨by rfl, by rfl⟩) (by assumption) ?_
            simp only [Act.put, List.setIfInBounds_toArray, List.set_cons_zero, List.set_cons_succ]
            refine wpAnyH_take (i := 28) (oi := { dst := some 73, op := Op.pick (Operand.tmp 63) (Operand.tmp 72) (Operand.const (Value.bool false)), type := 4, pos := "law.go:358", after := #[{ on := 18, ground := Ground.data }, { on := 27, ground := Ground.data }, { on := 14, ground := Ground.guard }], guard := some (14, false) }) (v := ?_) rfl (by kernel_rfl) (by kernel_rfl) (by kernel_rfl) (fun _ _ _ h => h) (Or.inl ⟨by rfl, ?_⟩) (by assumption) ?_
            rotate_left
            · (intro w hSw; (try dsimp only at hSw); go_simp); first | done | with_reducible rfl
            simp only [Act.put, List.setIfInBounds_toArray, List.set_cons_zero, List.set_cons_succ]
            refine wpAnyH_take (i := 29) (oi := { dst := some 74, op := Op.pick (Operand.tmp 59) (Operand.const (Value.bool true)) (Operand.tmp 73), type := 4, pos := "law.go:358", after := #[{ on := 14, ground := Ground.data }, { on := 28, ground := Ground.data }], guard := none }) (v := ?_) rfl (by kernel_rfl) (by kernel_rfl) (by kernel_rfl) (fun _ _ _ h => h) (Or.inl ⟨by rfl, ?_⟩) (by assumption) ?_
            rotate_left
            · (intro w hSw; (try dsimp only at hSw); go_simp); first | done | with_reducible rfl
            simp only [Act.put, List.setIfInBounds_toArray, List.set_cons_zero, List.set_cons_succ]
            refine wpAnyH_done (by kernel_rfl) ?_ _
            clear hHeld
            go_wp2_with fail
            go_meet
            case rel => exact ⟨rfl, HN1.out.below (below_drew1 wk)⟩
      case rest =>
        obtain ⟨rfl, HI⟩ := hcut
        clear HG HXO
        go_wp2_with fail
        go_loopg [5, 6, 9] 2 (fun g v u i wr => ∃ (t : Nat) (lo : Option Addr) (lc : Nat) (F : List Sl) (wo : Option Addr) (wcc : Nat) (W : List Sl) (X : Nat → List Int), t ≤ 2 ∧ 2 - t ≤ g ∧ v = .slice lo (2 * k + t) lc ∧ u = .slice wo (2 * k + t) wcc ∧ i = .int .i64 t ∧ Hid (Inv w1 wr gl gr m n0 (2 * k + t) (k + 1) lo lc F wo wcc W X))
        case atStart => exact ⟨0, lo, lc, F, wo, wcc, W, X, Nat.zero_le _, by omega, rfl, rfl, rfl, HI⟩
        case round =>
          clear HI
          obtain ⟨t, lo, lc, F, wo, wcc, W, X, ht, hg2, rfl, rfl, rfl, HI⟩ := hrel
          rename World => wq
          by_cases hl2 : t < 2
          · obtain ⟨β, nx, Z, al, cl, kk, A, ar, cr, h1, h2, h3, h4, h5⟩ := HI.out
            have HSt := hide h1
            have HAg := hide h2
            have HA := hide h3
            have HZl := hide h4
            have HF := hide h5
            clear h1 h2 h3 h4 h5 HI
            obtain ⟨j, hj⟩ : ∃ j, 2 * k + t = j := ⟨_, rfl⟩
            have HJ := hide hj
            have hjb : j ≤ 2200000 := by omega
            rw [hj] at HSt HF ⊢
            clear hj
            go_wp2_with fail
            refine (rfirst_any wq HSt.out.rf HAg.out.rb).mono ?_
            rintro e' w5 ⟨rfl, n5, hw5⟩
            have B5 : Hid (Below wq.heap.size wq w5) := by rw [hw5]; exact below_drewN _ _
            clear hw5
            go_wp2_with fail
            refine (fromU_any w5 (HSt.out.below B5.out).lg HAg.out.bd (n0 + kk)).mono ?_
            rintro e' w6 ⟨ra, ca, rfl, o6, b6⟩
            rw [HAg.out.from.1, HAg.out.from.2]
            rw [HAg.out.from.2] at o6
            have HA6 := hide (IR.of o6)
            have B6 : Hid (Below wq.heap.size wq w6) := below_on' B5.out b6
            have Z6 : Hid (w5.heap.size ≤ w6.heap.size) := b6.size
            clear o6 b6
            go_wp2_with fail
            refine (rfirst_any w6 (HSt.out.below B6.out).rf HAg.out.rb).mono ?_
            rintro e' w7 ⟨rfl, n7, hw7⟩
            have B67 : Hid (Below w6.heap.size w6 w7) := by rw [hw7]; exact below_drewN _ _
            have B7 : Hid (Below wq.heap.size wq w7) := below_on' B6.out B67.out
            clear hw7
            go_wp2_with fail
            refine (rfrom_any w7 (HSt.out.below B7.out).rf HAg.out.rb kk rfl).mono ?_
            rintro e' w8 ⟨rb, cb, rfl, o8, b8⟩
            have elen : A.length - kk = Z.length := by rw [HAg.out.z, List.length_drop]
            rw [elen, ← HAg.out.z] at o8
            rw [elen]
            have HB8 := hide (IR.of o8)
            have B8 : Hid (Below wq.heap.size wq w8) := below_on' B7.out b8
            have HA8 : Hid (IR w8 ra Z.length ca Z) := (HA6.out.1.below B67.out).below b8
            have HNE : Hid (∀ i, blk ra = some i → blk rb ≠ some i) := fun i e1 e2 => by
              have := HB8.out.2 i e2
              have := HA6.out.1.lt i e1
              have := B67.out.size
              omega
            clear o8 b8 elen
            obtain ⟨zl, hzl⟩ : ∃ zl, Z.length = zl := ⟨_, rfl⟩
            have HZL := hide hzl
            rw [hzl] at HA8 HB8 ⊢
            clear hzl
            go_wp2_with fail
            refine (sameInts_true ra zl ca Z rb zl cb w8 HA8.out.src HB8.out.1.src (by have := HZl.out; have := HZL.out; omega)).mono ?_
            rintro e' w9 ⟨rfl, b9⟩
            have HB9 : Hid (Below wq.heap.size wq w9) := below_on' B8.out b9
            have HRA : Hid (IR w9 ra zl ca Z ∧ IR w9 rb zl cb Z) := ⟨HA8.out.below b9, HB8.out.1.below b9⟩
            have HADD : Hid (∀ (w4 : World) (lo' : Option Addr) (lc' : Nat), SO 34 w4 lo' (j + 1) lc' (F ++ [⟨ra, zl, ca⟩]) → Ap w9 w4 lo lo' → SO 34 w4 wo j wcc W ∧ ∀ (w5 : World) (wo' : Option Addr) (wc' : Nat), SO 34 w5 wo' (j + 1) wc' (W ++ [⟨rb, zl, cb⟩]) → Ap w4 w5 wo wo' → ∃ β', St w1 w5 β' gl m nx Z al cl gr n0 kk A ar cr lo' (j + 1) lc' (F ++ [⟨ra, zl, ca⟩]) wo' wc' (W ++ [⟨rb, zl, cb⟩]) (Xu X j Z)) := fun w4 lo' lc' s4 a4 =>
              HSt.out.add HB9.out HRA.out.1 HRA.out.2 (fun i e => Nat.le_trans B5.out.size (HA6.out.2 i e)) (fun i e => Nat.le_trans B7.out.size (HB8.out.2 i e)) HNE.out s4 a4
            have HSO : Hid (SO 34 w9 lo j lc F) := (HSt.out.below HB9.out).so
            have HFl := hide HSt.out.so.len
            clear b9 B8 B7 B67 B6 B5 Z6 HA6 HA8 HB8 HRA HNE HSt HB9
            go_wp2_with (first | (at_builtin; refine SO.app (s := ⟨ra, zl, ca⟩) HSO.out infoS Try.underlying30 (by omega) rfl (.tmp 97) (.tmp 99) rfl rfl rfl ?_; intro b5 c5 w5 so5 a5; obtain ⟨sw5, F5⟩ := HADD.out w5 b5 c5 so5 a5; have HSW := hide sw5; have HF5 := hide F5; clear so5 a5 sw5 F5 HADD) | (at_builtin; refine SO.app (s := ⟨rb, zl, cb⟩) HSW.out infoS Try.underlying30 (by omega) rfl (.tmp 101) (.tmp 103) rfl rfl rfl ?_; intro b6 c6 w6 so6 a6; have H6 := hide (HF5.out w6 b6 c6 so6 a6); clear so6 a6 HF5))
            go_roundg (2 - (t + 1))
            case measure => omega
            case rel =>
              obtain ⟨β', h6⟩ := H6.out
              have ej : 2 * k + (t + 1) = j + 1 := by have := HJ.out; omega
              refine ⟨t + 1, b5, c5, F ++ [⟨ra, zl, ca⟩], b6, c6, W ++ [⟨rb, zl, cb⟩], Xu X j Z, by omega, Nat.le_refl _, by rw [ej], by rw [ej], by go_num, ?_⟩
              rw [ej]
              exact ⟨β', nx, Z, al, cl, kk, A, ar, cr, h6, HAg.out, HA.out, HZl.out, fun q hq => by
                by_cases e : q = j
                · rw [e]
                  have e1 : fr (F ++ [⟨ra, zl, ca⟩]) j = ⟨ra, zl, ca⟩ := getD_snoc_eq _ _ _ _ HFl.out.symm
                  rw [e1]
                  have := HZl.out; have := HZL.out
                  show zl ≤ 65
                  omega
                · have e1 : fr (F ++ [⟨ra, zl, ca⟩]) q = fr F q := getD_snoc_lt _ _ _ _ (by have := HFl.out; omega)
                  rw [e1]
                  exact HF.out q (by omega)⟩
          · obtain rfl : t = 2 := by omega
            have ek : 2 * k + 2 = 2 * (k + 1) := by omega
            rw [ek] at HI ⊢
            go_wp2_with fail
            go_roundg (n - (k + 1))
            case measure => omega
            case rel => exact ⟨k + 1, lo, lc, F, wo, wcc, W, X, by omega, Nat.le_refl _, rfl, rfl, by go_num, HI⟩
    · obtain ⟨β, nx, Z, al, cl, kk, A, ar, cr, h1, h2, h3, h4, h5⟩ := H.out
      obtain ⟨j, hj⟩ : ∃ j, 2 * k = j := ⟨_, rfl⟩
      have hjb : j ≤ 2200000 := by omega
      rw [hj] at h1 h5 ⊢
      have HSt := hide h1
      have HAg := hide h2
      have HF := hide h5
      have HZl := hide h4
      clear h1 h2 h3 h4 h5 H hj
      go_wp2_with fail
      go_loopw [14] (fun i w3 => ∃ p : Nat, p ≤ j ∧ i = .int .i64 p ∧ Hid (Below wr.heap.size wr w3)) (fun i _ => j - (intOf i).toNat)
      case atStart => exact ⟨0, Nat.zero_le _, rfl, Below.refl _ _⟩
      case round =>
        obtain ⟨p, hp, rfl, HB⟩ := hrel
        rename World => wz
        by_cases hl3 : p < j
        · obtain ⟨b1, rfl, c1, -⟩ := HSt.out.so.at p hl3
          obtain ⟨b2, rfl, c2, -⟩ := HSt.out.sw.at p hl3
          have s1 := (HSt.out.rows p hl3).1
          have s2 := (HSt.out.wr p hl3).1
          have hf := HF.out p hl3
          obtain ⟨fa, fn, fc, eF⟩ : ∃ fa fn fc, fr F p = ⟨fa, fn, fc⟩ := ⟨_, _, _, rfl⟩
          obtain ⟨wa, wm, wp, eW⟩ : ∃ fa fn fc, fr W p = ⟨fa, fn, fc⟩ := ⟨_, _, _, rfl⟩
          have eF' : F.getD p sl0 = ⟨fa, fn, fc⟩ := eF
          have eW' : W.getD p sl0 = ⟨wa, wm, wp⟩ := eW
          rw [eF] at s1 hf
          rw [eW] at s2
          rw [eF'] at c1
          rw [eW'] at c2
          replace c1 : wr.cell? ⟨b1, p, none⟩ = some (.slice fa fn fc) := c1
          replace c2 : wr.cell? ⟨b2, p, none⟩ = some (.slice wa wm wp) := c2
          replace s1 : IR wr fa fn fc (X p) := s1
          replace s2 : IR wr wa wm wp (X p) := s2
          replace hf : fn ≤ 65 := hf
          have k1 := cell_regrown ((HB.out.cell (World.block_lt_of_cell? _ _ c1)).trans c1)
          have k2 := cell_regrown ((HB.out.cell (World.block_lt_of_cell? _ _ c2)).trans c2)
          have HS1 := hide (s1.src.below HB.out)
          have HS2 := hide (s2.src.below HB.out)
          have cS : ∀ d os, Calls Try.prog 14 #[.slice fa fn fc, .slice wa wm wp] (Sort.grow (redrawn wz d) os) fun e w'' => e = .returned (.bool true) ∧ ∃ p : Regrown, w'' = Sort.grow (redrawn wz p.d) p.os := fun d os =>
            Calls.regrown_of (sameInts_true _ _ _ _ _ _ _ _ (HS1.out.below (below_regrown wz d os)) (HS2.out.below (below_regrown wz d os)) (by omega))
          clear eF eW eF' eW' c1 c2 s1 s2
          go_wp2_with fail
          refine wp_region_quiet_below (by kernel_rfl) (by kernel_rfl) ?_
          repeat (quiet_step ((go_at_call 14; exact cS _ _)))
          refine wpQuiet_nil ?_
          intro w5 hw'
          obtain ⟨⟨dq, osq⟩, hw''⟩ := hw'
          have HB5 : Hid (Below wr.heap.size wr w5) := by
            have B5 : Below wz.heap.size wz w5 := by rw [hw'']; exact below_regrown wz dq osq
            exact below_on' HB.out B5
          clear hw'' dq osq
          go_wp2_with fail
          go_roundw
          case rel => exact ⟨p + 1, by omega, by go_num, HB5⟩
          case measure => simp [intOf]; omega
        · have HSz := hide (HSt.out.below HB.out)
          clear HSt
          go_wp2_with fail
          obtain ⟨γ, g1, g2, g3⟩ := HSz.out.bs
          refine (apart_any lo j lc F X γ wz g1 (fun q hq => (HSz.out.rows q hq).1) HF.out hjb g2 g3).mono ?_
          rintro e' w5 ⟨rfl, f5⟩
          obtain ⟨l5, r5, b5⟩ := HSz.out.after f5
          have HL5 := hide (And.intro l5 r5)
          have HB5 : Hid (Below w1.heap.size w1 w5) := b5
          clear l5 r5 b5 f5 g1 g2 g3 HSz
          go_wp2_with fail
          refine (rfirst_any w5 HL5.out.2 HAg.out.rb).mono ?_
          rintro e' w6 ⟨rfl, n6, hw6⟩
          have B6 : Hid (Below w5.heap.size w5 w6) := by rw [hw6]; exact below_drewN _ _
          clear hw6
          go_wp2_with fail
          refine (fromU_any w6 (HL5.out.1.below B6.out) HAg.out.bd (n0 + kk)).mono ?_
          rintro e' w7 ⟨ra, ca, rfl, o7, b7⟩
          rw [HAg.out.from.1, HAg.out.from.2]
          rw [HAg.out.from.2] at o7
          have HA7 := hide (IR.of o7)
          have B7 : Hid (Below w5.heap.size w5 w7) := below_on' B6.out b7
          clear o7 b7
          go_wp2_with fail
          refine (rfirst_any w7 (HL5.out.2.below B7.out) HAg.out.rb).mono ?_
          rintro e' w8 ⟨rfl, n8, hw8⟩
          have B78 : Hid (Below w7.heap.size w7 w8) := by rw [hw8]; exact below_drewN _ _
          have B8 : Hid (Below w5.heap.size w5 w8) := below_on' B7.out B78.out
          clear hw8
          go_wp2_with fail
          refine (rfrom_any w8 (HL5.out.2.below B8.out) HAg.out.rb kk rfl).mono ?_
          rintro e' w9 ⟨rb, cb, rfl, o9, b9⟩
          have elen : A.length - kk = Z.length := by rw [HAg.out.z, List.length_drop]
          rw [elen, ← HAg.out.z] at o9
          rw [elen]
          have HB9 := hide (IR.of o9)
          have B9 : Hid (Below w5.heap.size w5 w9) := below_on' B8.out b9
          have HA9 : Hid (IR w9 ra Z.length ca Z) := (HA7.out.1.below B78.out).below b9
          clear o9 b9 elen
          obtain ⟨zl, hzl⟩ : ∃ zl, Z.length = zl := ⟨_, rfl⟩
          have HZL := hide hzl
          rw [hzl] at HA9 HB9 ⊢
          clear hzl
          go_wp2_with fail
          refine (sameInts_true ra zl ca Z rb zl cb w9 HA9.out.src HB9.out.1.src (by have := HZl.out; have := HZL.out; omega)).mono ?_
          rintro e' wa ⟨rfl, ba⟩
          have HFin : Hid (Below w.heap.size w wa) := below_on' HB1.out (below_on' HB5.out (below_on' B9.out ba))
          clear ba
          go_wp2_with fail
          go_ret
          exact ⟨rfl, HFin.out⟩
end Go.Proofs.Ytioioagomlpmeaa
