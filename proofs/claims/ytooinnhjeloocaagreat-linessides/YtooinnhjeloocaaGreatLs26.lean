/- ONr LBase LSku -/
import Derived.Test.YtooinnhjeloocaaGreatLs25
import Derived.Test.YtooinnhjeloocaaGreatLs16
import Derived.Lib.MinMax
import Derived.Test.YtooinnhjeloocaaGreatRows
import Derived.WalkKit
import Derived.WalkSpells
import Derived.Deep.QuietTactic
import Derived.BigQuiet
namespace Go.Proofs.YtooinnhjeloocaaGreat
open Go.RowKit
attribute [local go_sem ↓] ldP_eq stP_eq ldD_eq stD_eq
attribute [local go_sem] cells_PV PC_size
variable {w w' w2 W W' : World} {g : Nat}

/-- what near answers -/
def NrA (w w' : World) (e : Ending) (p : Pv) (d : Rn) : Prop := ∃ (q : Pv) (i : Nat), e = .returned (PV q) ∧ PSrc w' q ∧ FirstAt p.P.cloud d p.cn i ∧ q.P = ⟨p.P.vec, (p.P.cloud.drop i).take 1⟩ ∧ Below w.heap.size w w'
theorem ssrc_cut {ad : Addr} {n c i : Nat} {L : List Sn} (h : SSrc w (some ad) n c L) (hi : i < n) (c' : Nat) (hc : 1 ≤ c') : SSrc w (some (ad.add (i * 3))) 1 c' ((L.drop i).take 1) := by
  have hl := h.len
  refine ⟨by rw [List.length_take, List.length_drop]; omega, fun e => (by cases e), fun ad' e t ht => ?_, by omega, hc⟩
  obtain rfl := Option.some.inj e
  obtain rfl : t = 0 := by omega
  have A := h.cell ad rfl i hi
  have e1 : ((L.drop i).take 1).getD 0 sn0 = L.getD i sn0 := by
    rw [List.getD_eq_getElem?_getD, List.getElem?_take, if_pos (by omega), List.getElem?_drop, Nat.add_zero, List.getD_eq_getElem?_getD]
  rw [e1, Nat.zero_mul, add_zero]
  exact A
theorem ssrc_none {L : List Sn} {n c i : Nat} {ao : Option Addr} (hl : L.length = n) (hi : n ≤ i) (hn : ao = none → c = 0) : SSrc w ao 0 c ((L.drop i).take 1) := by
  have e : (L.drop i).take 1 = [] := by rw [List.drop_eq_nil_of_le (by omega)]; rfl
  rw [e]
  exact ⟨rfl, fun h => ⟨rfl, hn h⟩, fun ad h t ht => (by omega), by omega, Nat.zero_le _⟩
set_option maxRecDepth 100000 in
set_option maxHeartbeats 3200000 in
theorem near_any (p : Pv) (d : Rn) (w : World) (hS : PSrc w p) (hm : ∀ a b, a ≤ b → b < p.cn → nrC (p.P.cloud.getD b sn0) d < 0 → nrC (p.P.cloud.getD a sn0) d < 0) : Calls Tryz.prog 32 #[PV p, RV d] w fun e w' => NrA w w' e p d := by
  have b1 := below_new w (.cells (PC p) 26)
  have x1 := pbox_new w p
  have s1 := World.size_alloc w (.cells (PC p) 26)
  obtain ⟨w1, hw1⟩ : ∃ w1, w.alloc (.cells (PC p) 26) = w1 := ⟨_, rfl⟩
  obtain ⟨g1, hg1⟩ : ∃ g1, w.heap.size = g1 := ⟨_, rfl⟩
  rw [hw1] at b1 x1 s1
  rw [hg1] at x1 s1
  have b2 := below_new w1 (.cells (RC d) 28)
  have x2 := box_new w1 28 d
  have s2 := World.size_alloc w1 (.cells (RC d) 28)
  obtain ⟨w2, hw2⟩ : ∃ w2, w1.alloc (.cells (RC d) 28) = w2 := ⟨_, rfl⟩
  rw [hw2] at b2 x2 s2
  rw [s1] at x2 s2
  have b3 := below_new w2 (.cells #[.slice none 0 0, .slice none 0 0] 26)
  have x3 : PBox (w2.alloc (.cells #[.slice none 0 0, .slice none 0 0] 26)) w2.heap.size pv0 := pbox_new w2 pv0
  obtain ⟨w3, hw3⟩ : ∃ w3, w2.alloc (.cells #[.slice none 0 0, .slice none 0 0] 26) = w3 := ⟨_, rfl⟩
  rw [hw3] at b3 x3
  rw [s2] at x3
  have b13 := b1.trans ((b2.trans (b3.mono b2.size)).mono b1.size)
  have hX1 := (x1.below b2).below b3
  have HX : Hid (PBox w3 g1 p ∧ PBox w3 (g1 + 1 + 1) pv0 ∧ PSrc w3 p ∧ Below w.heap.size w w3 ∧ w.heap.size = g1) := ⟨hX1, x3, hS.below b13, b13, hg1⟩
  have ld := run_ldD (x2.below b3).at
  obtain ⟨y0, y1⟩ := hX1.nums
  have HBs := hide (bsF_any p.co p.cn p.cc p.P.cloud d w3 HX.out.2.2.1.cloud hm)
  have HS := hide hS
  clear b1 b2 b3 x1 x2 x3 b13 hX1 hS hm
  go_enter Tryz.func32, Tryz.ntmps32
  go_wp2_with fail
  clear hw1 hw2 hw3 s1 s2 hg1 ld y0 y1
  refine HBs.out.mono ?_
  rintro e w4 ⟨i, fb, rfl, hF, b4⟩
  have HF := hide hF
  have hin : i ≤ p.cn := hF.1
  have hnb : p.cn ≤ 5864062014805 := HX.out.2.2.1.cloud.big
  have HB4 := hide (HX.out.2.2.2.1.trans (b4.mono HX.out.2.2.2.1.size))
  have HX4 : Hid (PBox w4 g1 p ∧ PBox w4 (g1 + 1 + 1) pv0 ∧ PSrc w4 p) := ⟨HX.out.1.below b4, HX.out.2.1.below b4, HX.out.2.2.1.below b4⟩
  have HSt : Hid (∀ (W : World) co cn cc, W.heap[g1]? = w4.heap[g1]? → p.co = co → p.cn = cn → p.cc = cc → W.cell? ⟨g1, 0, none⟩ = some (.slice p.vo p.vn p.vc) ∧ W.cell? ⟨g1, 1, none⟩ = some (.slice co cn cc)) := fun W co cn cc hW h1 h2 h3 => by rw [← h1, ← h2, ← h3]; exact PBox.nums (show PBox W g1 p from hW.trans HX4.out.1)
  have HEn : Hid (∀ (q : Pv), PSrc w q → q.P = ⟨p.P.vec, (p.P.cloud.drop i).take 1⟩ → (stP (.pointer (some ⟨g1 + 1 + 1, 0, none⟩)) (PV q)).run Tryz.prog w4.drew = .ok () (w4.drew.setRow (g1 + 1 + 1) (PC q)) ∧ PBox (w4.drew.setRow (g1 + 1 + 1) (PC q)) (g1 + 1 + 1) q ∧ NrA w (w4.drew.setRow (g1 + 1 + 1) (PC q)) (.returned (PV q)) p d) := fun q hq hP => by
    have hb : Below w.heap.size w (w4.drew.setRow (g1 + 1 + 1) (PC q)) := below_setRow (HB4.out.trans ((below_drew1 w4).mono HB4.out.size)) (by have := HX.out.2.2.2.2; omega)
    have hX : PBox w4.drew (g1 + 1 + 1) pv0 := HX4.out.2.1.below (below_drew1 w4)
    exact ⟨run_stP (p' := q) hX, setRow_heap _ _ _ _ _ _ hX, q, i, rfl, hq.below hb, HF.out, hP, hb⟩
  obtain ⟨u, hu⟩ : ∃ u : Nat, i + 1 = u := ⟨_, rfl⟩
  have eu : (i : Int) + 1 = (u : Int) := by omega
  have ew : IntKind.i64.wrap (u : Int) = (u : Int) := by rw [IntKind.wrap_i64]; omega
  clear hF b4 HBs
  by_cases hlt : i < p.cn
  · have emin : min (u : Int) (p.cn : Int) = (u : Int) := by omega
    obtain ⟨ad, hco, -⟩ := HS.out.cloud.at i hlt
    have hcap := HS.out.cloud.cap
    have hci : ¬ p.cc = i := by omega
    have h1 : (u : Int) ≤ (p.cc : Int) := by omega
    have h2 : i ≤ u := by omega
    have h3 : u ≤ p.cc := by omega
    obtain ⟨t8, x8, hE⟩ := HEn.out ⟨p.vo, p.vn, p.vc, some (ad.add (i * 3)), u - i, p.cc - i, ⟨p.P.vec, (p.P.cloud.drop i).take 1⟩⟩ ⟨HS.out.vec, by rw [show u - i = 1 by omega]; exact ssrc_cut (hco ▸ HS.out.cloud) hlt (p.cc - i) (show 1 ≤ p.cc - i by omega), HS.out.big⟩ rfl
    replace t8 : (stP (.pointer (some ⟨g1 + 1 + 1, 0, none⟩)) (.agg #[.slice p.vo p.vn p.vc, .slice (some (ad.add (i * 3))) (u - i) (p.cc - i)])).run Tryz.prog w4.drew = .ok () (w4.drew.setRow (g1 + 1 + 1) (PC ⟨p.vo, p.vn, p.vc, some (ad.add (i * 3)), u - i, p.cc - i, ⟨p.P.vec, (p.P.cloud.drop i).take 1⟩⟩)) := t8
    have HX8 := hide x8
    have HE := hide hE
    clear x8 hE
    go_upto_region 2 with fail
    refine wp_region_held_drew (S := fun W => W.cell? ⟨g1, 0, none⟩ = some (.slice p.vo p.vn p.vc) ∧ W.cell? ⟨g1, 1, none⟩ = some (.slice (some ad) p.cn p.cc)) (by kernel_rfl) (HSt.out _ _ _ _ rfl hco rfl rfl) (fun hHeld => ?_)
    refine wpAnyH_take (i := 0) (oi := { dst := some 14, op := Op.fieldAddr 26 (Operand.tmp 2) 0, type := 0, pos := "picks.go:87", after := #[], guard := none }) (v := ?_) rfl (by kernel_rfl) (by kernel_rfl) (by kernel_rfl) (fun _ _ _ h => h) (Or.inl ⟨by rfl, ?_⟩) (by assumption) ?_
    rotate_left
    · (intro w hSw; (try dsimp only at hSw); go_simp); first | done | with_reducible rfl
    simp only [Act.put, List.setIfInBounds_toArray, List.set_cons_zero, List.set_cons_succ]
    refine wpAnyH_take (i := 1) (oi := { dst := some 15, op := Op.load 23 (Operand.tmp 14), type := 23, pos := "picks.go:87", after := #[{ on := 0, ground := Ground.data }], guard := none }) (v := ?_) rfl (by kernel_rfl) (by kernel_rfl) (by kernel_rfl) (fun _ _ _ h => h) (Or.inl ⟨by rfl, ?_⟩) (by assumption) ?_
    rotate_left
    · (intro w hSw; (try dsimp only at hSw); go_simp); first | done | with_reducible rfl
    simp only [Act.put, List.setIfInBounds_toArray, List.set_cons_zero, List.set_cons_succ]
    refine wpAnyH_take (i := 2) (oi := { dst := some 16, op := Op.fieldAddr 26 (Operand.tmp 2) 1, type := 0, pos := "picks.go:87", after := #[], guard := none }) (v := ?_) rfl (by kernel_rfl) (by kernel_rfl) (by kernel_rfl) (fun _ _ _ h => h) (Or.inl ⟨by rfl, ?_⟩) (by assumption) ?_
    rotate_left
    · (intro w hSw; (try dsimp only at hSw); go_simp); first | done | with_reducible rfl
    simp only [Act.put, List.setIfInBounds_toArray, List.set_cons_zero, List.set_cons_succ]
    refine wpAnyH_take (i := 3) (oi := { dst := some 17, op := Op.load 24 (Operand.tmp 16), type := 24, pos := "picks.go:87", after := #[{ on := 2, ground := Ground.data }], guard := none }) (v := ?_) rfl (by kernel_rfl) (by kernel_rfl) (by kernel_rfl) (fun _ _ _ h => h) (Or.inl ⟨by rfl, ?_⟩) (by assumption) ?_
    rotate_left
    · (intro w hSw; (try dsimp only at hSw); go_simp); first | done | with_reducible rfl
    simp only [Act.put, List.setIfInBounds_toArray, List.set_cons_zero, List.set_cons_succ]
    refine wpAnyH_take (i := 4) (oi := { dst := some 18, op := Op.move (Operand.tmp 5), type := 3, pos := "picks.go:87", after := #[], guard := none }) (v := ?_) rfl (by kernel_rfl) (by kernel_rfl) (by kernel_rfl) (fun _ _ _ h => h) (Or.inl ⟨by rfl, ?_⟩) (by assumption) ?_
    rotate_left
    · (intro w hSw; (try dsimp only at hSw); go_simp); first | done | with_reducible rfl
    simp only [Act.put, List.setIfInBounds_toArray, List.set_cons_zero, List.set_cons_succ]
    refine wpAnyH_take (i := 5) (oi := { dst := some 19, op := Op.move (Operand.tmp 5), type := 3, pos := "picks.go:87", after := #[], guard := none }) (v := ?_) rfl (by kernel_rfl) (by kernel_rfl) (by kernel_rfl) (fun _ _ _ h => h) (Or.inl ⟨by rfl, ?_⟩) (by assumption) ?_
    rotate_left
    · (intro w hSw; (try dsimp only at hSw); go_simp); first | done | with_reducible rfl
    simp only [Act.put, List.setIfInBounds_toArray, List.set_cons_zero, List.set_cons_succ]
    refine wpAnyH_take (i := 6) (oi := { dst := some 20, op := Op.binOp BinOp.add 3 (Operand.tmp 19) (Operand.const (Value.int IntKind.i64 1)) 3, type := 3, pos := "picks.go:87", after := #[{ on := 5, ground := Ground.data }], guard := none }) (v := ?_) rfl (by kernel_rfl) (by kernel_rfl) (by kernel_rfl) (fun _ _ _ h => h) (Or.inl ⟨by rfl, ?_⟩) (by assumption) ?_
    rotate_left
    · (intro w hSw; (try dsimp only at hSw); go_simp); first | done | with_reducible rfl
    simp only [Act.put, List.setIfInBounds_toArray, List.set_cons_zero, List.set_cons_succ]
    refine wpAnyH_take (i := 7) (oi := { dst := some 21, op := Op.fieldAddr 26 (Operand.tmp 2) 1, type := 0, pos := "picks.go:87", after := #[], guard := none }) (v := ?_) rfl (by kernel_rfl) (by kernel_rfl) (by kernel_rfl) (fun _ _ _ h => h) (Or.inl ⟨by rfl, ?_⟩) (by assumption) ?_
    rotate_left
    · (intro w hSw; (try dsimp only at hSw); go_simp); first | done | with_reducible rfl
    simp only [Act.put, List.setIfInBounds_toArray, List.set_cons_zero, List.set_cons_succ]
    refine wpAnyH_take (i := 8) (oi := { dst := some 22, op := Op.load 24 (Operand.tmp 21), type := 24, pos := "picks.go:87", after := #[{ on := 7, ground := Ground.data }], guard := none }) (v := ?_) rfl (by kernel_rfl) (by kernel_rfl) (by kernel_rfl) (fun _ _ _ h => h) (Or.inl ⟨by rfl, ?_⟩) (by assumption) ?_
    rotate_left
    · (intro w hSw; (try dsimp only at hSw); go_simp); first | done | with_reducible rfl
    simp only [Act.put, List.setIfInBounds_toArray, List.set_cons_zero, List.set_cons_succ]
    refine wpAnyH_take (i := 9) (oi := { dst := some 23, op := Op.call { callee := Callee.builtin Builtin.len, args := #[Operand.tmp 22], argTypes := #[24] }, type := 3, pos := "picks.go:87", after := #[{ on := 8, ground := Ground.data }], guard := none }) (v := ?_) rfl (by kernel_rfl) (by kernel_rfl) (by kernel_rfl) (fun _ _ _ h => h) (Or.inl ⟨by rfl, ?_⟩) (by assumption) ?_
    rotate_left
    · (intro w hSw; (try dsimp only at hSw); go_simp); first | done | with_reducible rfl
    simp only [Act.put, List.setIfInBounds_toArray, List.set_cons_zero, List.set_cons_succ]
    refine wpAnyH_take (i := 10) (oi := { dst := some 24, op := Op.call { callee := Callee.builtin Builtin.min, args := #[Operand.tmp 20, Operand.tmp 23], argTypes := #[3, 3] }, type := 3, pos := "picks.go:87", after := #[{ on := 6, ground := Ground.data }, { on := 9, ground := Ground.data }], guard := none }) (v := ?_) rfl (by kernel_rfl) (by kernel_rfl) (by kernel_rfl) (fun _ _ _ h => h) (Or.inl ⟨by rfl, ?_⟩) (by assumption) ?_
    rotate_left
    · (intro w hSw; (try dsimp only at hSw); go_simp); first | done | with_reducible rfl
    simp only [Act.put, List.setIfInBounds_toArray, List.set_cons_zero, List.set_cons_succ]
    refine wpAnyH_take (i := 11) (oi := { dst := some 25, op := Op.slice 24 (Operand.tmp 17) (some (Operand.tmp 18)) (some (Operand.tmp 24)) none, type := 24, pos := "picks.go:87", after := #[{ on := 3, ground := Ground.data }, { on := 4, ground := Ground.data }, { on := 10, ground := Ground.data }], guard := none }) (v := .slice (some (ad.add (i * 3))) (u - i) (p.cc - i)) rfl (by kernel_rfl) (by kernel_rfl) (by kernel_rfl) (fun _ _ _ h => h) (Or.inl ⟨by rfl, ?_⟩) (by assumption) ?_
    skip
    · (intro w hSw; (try dsimp only at hSw); go_simp); first | done | with_reducible rfl
    simp only [Act.put, List.setIfInBounds_toArray, List.set_cons_zero, List.set_cons_succ]
    refine wpAnyH_take (i := 12) (oi := { dst := some 26, op := Op.build 26 #[(0, Operand.tmp 15), (1, Operand.tmp 25)], type := 26, pos := "picks.go:87", after := #[{ on := 1, ground := Ground.data }, { on := 11, ground := Ground.data }], guard := none }) (v := ?_) rfl (by kernel_rfl) (by kernel_rfl) (by kernel_rfl) (fun _ _ _ h => h) (Or.inl ⟨by rfl, ?_⟩) (by assumption) ?_
    rotate_left
    · (intro w hSw; (try dsimp only at hSw); go_simp); first | done | with_reducible rfl
    simp only [Act.put, List.setIfInBounds_toArray, List.set_cons_zero, List.set_cons_succ]
    refine wpAnyH_ready (rs := [13]) (by kernel_rfl) (by simp) ?_
    refine AllReadyH.cons rfl (fun K hK => ?_) ?_
    rotate_left
    · exact AllReadyH.nil
    go_simp
    refine hK.out _ _ (HSt.out _ _ _ _ ?_ hco rfl rfl) (fun hHeld => ?_)
    · exact setRow_other _ _ _ _ (by omega)
    clear hK K t8
    refine wpAnyH_done (by kernel_rfl) ?_ _
    clear hHeld
    go_wp2_with fail
    refine bodyPost_ret (resP rfl rfl HX8.out) rfl ?_
    exact HE.out
  · obtain rfl : i = p.cn := by omega
    have emin : min (u : Int) (p.cn : Int) = (p.cn : Int) := by omega
    have hl := HS.out.cloud.len
    cases hco : p.co with
    | none =>
      obtain ⟨hn0, hc0⟩ := HS.out.cloud.nil hco
      have hn0i : (p.cn : Int) = 0 := by omega
      have emin0 : min (1 : Int) 0 = 0 := by decide
      have ew1 : IntKind.i64.wrap (1 : Int) = 1 := by rw [IntKind.wrap_i64]; decide
      obtain ⟨t8, x8, hE⟩ := HEn.out ⟨p.vo, p.vn, p.vc, none, 0, 0, ⟨p.P.vec, (p.P.cloud.drop p.cn).take 1⟩⟩ ⟨HS.out.vec, ssrc_none hl (Nat.le_refl _) (fun _ => rfl), HS.out.big⟩ rfl
      replace t8 : (stP (.pointer (some ⟨g1 + 1 + 1, 0, none⟩)) (.agg #[.slice p.vo p.vn p.vc, .slice none 0 0])).run Tryz.prog w4.drew = .ok () (w4.drew.setRow (g1 + 1 + 1) (PC ⟨p.vo, p.vn, p.vc, none, 0, 0, ⟨p.P.vec, (p.P.cloud.drop p.cn).take 1⟩⟩)) := t8
      have HX8 := hide x8
      have HE := hide hE
      clear x8 hE
      go_upto_region 2 with fail
      refine wp_region_held_drew (S := fun W => W.cell? ⟨g1, 0, none⟩ = some (.slice p.vo p.vn p.vc) ∧ W.cell? ⟨g1, 1, none⟩ = some (.slice none 0 0)) (by kernel_rfl) (HSt.out _ _ _ _ rfl hco hn0 hc0) (fun hHeld => ?_)
      refine wpAnyH_take (i := 0) (oi := { dst := some 14, op := Op.fieldAddr 26 (Operand.tmp 2) 0, type := 0, pos := "picks.go:87", after := #[], guard := none }) (v := ?_) rfl (by kernel_rfl) (by kernel_rfl) (by kernel_rfl) (fun _ _ _ h => h) (Or.inl ⟨by rfl, ?_⟩) (by assumption) ?_
      rotate_left
      · (intro w hSw; (try dsimp only at hSw); go_simp); first | done | with_reducible rfl
      simp only [Act.put, List.setIfInBounds_toArray, List.set_cons_zero, List.set_cons_succ]
      refine wpAnyH_take (i := 1) (oi := { dst := some 15, op := Op.load 23 (Operand.tmp 14), type := 23, pos := "picks.go:87", after := #[{ on := 0, ground := Ground.data }], guard := none }) (v := ?_) rfl (by kernel_rfl) (by kernel_rfl) (by kernel_rfl) (fun _ _ _ h => h) (Or.inl ⟨by rfl, ?_⟩) (by assumption) ?_
      rotate_left
      · (intro w hSw; (try dsimp only at hSw); go_simp); first | done | with_reducible rfl
      simp only [Act.put, List.setIfInBounds_toArray, List.set_cons_zero, List.set_cons_succ]
      refine wpAnyH_take (i := 2) (oi := { dst := some 16, op := Op.fieldAddr 26 (Operand.tmp 2) 1, type := 0, pos := "picks.go:87", after := #[], guard := none }) (v := ?_) rfl (by kernel_rfl) (by kernel_rfl) (by kernel_rfl) (fun _ _ _ h => h) (Or.inl ⟨by rfl, ?_⟩) (by assumption) ?_
      rotate_left
      · (intro w hSw; (try dsimp only at hSw); go_simp); first | done | with_reducible rfl
      simp only [Act.put, List.setIfInBounds_toArray, List.set_cons_zero, List.set_cons_succ]
      refine wpAnyH_take (i := 3) (oi := { dst := some 17, op := Op.load 24 (Operand.tmp 16), type := 24, pos := "picks.go:87", after := #[{ on := 2, ground := Ground.data }], guard := none }) (v := ?_) rfl (by kernel_rfl) (by kernel_rfl) (by kernel_rfl) (fun _ _ _ h => h) (Or.inl ⟨by rfl, ?_⟩) (by assumption) ?_
      rotate_left
      · (intro w hSw; (try dsimp only at hSw); go_simp); first | done | with_reducible rfl
      simp only [Act.put, List.setIfInBounds_toArray, List.set_cons_zero, List.set_cons_succ]
      refine wpAnyH_take (i := 4) (oi := { dst := some 18, op := Op.move (Operand.tmp 5), type := 3, pos := "picks.go:87", after := #[], guard := none }) (v := ?_) rfl (by kernel_rfl) (by kernel_rfl) (by kernel_rfl) (fun _ _ _ h => h) (Or.inl ⟨by rfl, ?_⟩) (by assumption) ?_
      rotate_left
      · (intro w hSw; (try dsimp only at hSw); go_simp); first | done | with_reducible rfl
      simp only [Act.put, List.setIfInBounds_toArray, List.set_cons_zero, List.set_cons_succ]
      refine wpAnyH_take (i := 5) (oi := { dst := some 19, op := Op.move (Operand.tmp 5), type := 3, pos := "picks.go:87", after := #[], guard := none }) (v := ?_) rfl (by kernel_rfl) (by kernel_rfl) (by kernel_rfl) (fun _ _ _ h => h) (Or.inl ⟨by rfl, ?_⟩) (by assumption) ?_
      rotate_left
      · (intro w hSw; (try dsimp only at hSw); go_simp); first | done | with_reducible rfl
      simp only [Act.put, List.setIfInBounds_toArray, List.set_cons_zero, List.set_cons_succ]
      refine wpAnyH_take (i := 6) (oi := { dst := some 20, op := Op.binOp BinOp.add 3 (Operand.tmp 19) (Operand.const (Value.int IntKind.i64 1)) 3, type := 3, pos := "picks.go:87", after := #[{ on := 5, ground := Ground.data }], guard := none }) (v := ?_) rfl (by kernel_rfl) (by kernel_rfl) (by kernel_rfl) (fun _ _ _ h => h) (Or.inl ⟨by rfl, ?_⟩) (by assumption) ?_
      rotate_left
      · (intro w hSw; (try dsimp only at hSw); go_simp); first | done | with_reducible rfl
      simp only [Act.put, List.setIfInBounds_toArray, List.set_cons_zero, List.set_cons_succ]
      refine wpAnyH_take (i := 7) (oi := { dst := some 21, op := Op.fieldAddr 26 (Operand.tmp 2) 1, type := 0, pos := "picks.go:87", after := #[], guard := none }) (v := ?_) rfl (by kernel_rfl) (by kernel_rfl) (by kernel_rfl) (fun _ _ _ h => h) (Or.inl ⟨by rfl, ?_⟩) (by assumption) ?_
      rotate_left
      · (intro w hSw; (try dsimp only at hSw); go_simp); first | done | with_reducible rfl
      simp only [Act.put, List.setIfInBounds_toArray, List.set_cons_zero, List.set_cons_succ]
      refine wpAnyH_take (i := 8) (oi := { dst := some 22, op := Op.load 24 (Operand.tmp 21), type := 24, pos := "picks.go:87", after := #[{ on := 7, ground := Ground.data }], guard := none }) (v := ?_) rfl (by kernel_rfl) (by kernel_rfl) (by kernel_rfl) (fun _ _ _ h => h) (Or.inl ⟨by rfl, ?_⟩) (by assumption) ?_
      rotate_left
      · (intro w hSw; (try dsimp only at hSw); go_simp); first | done | with_reducible rfl
      simp only [Act.put, List.setIfInBounds_toArray, List.set_cons_zero, List.set_cons_succ]
      refine wpAnyH_take (i := 9) (oi := { dst := some 23, op := Op.call { callee := Callee.builtin Builtin.len, args := #[Operand.tmp 22], argTypes := #[24] }, type := 3, pos := "picks.go:87", after := #[{ on := 8, ground := Ground.data }], guard := none }) (v := ?_) rfl (by kernel_rfl) (by kernel_rfl) (by kernel_rfl) (fun _ _ _ h => h) (Or.inl ⟨by rfl, ?_⟩) (by assumption) ?_
      rotate_left
      · (intro w hSw; (try dsimp only at hSw); go_simp); first | done | with_reducible rfl
      simp only [Act.put, List.setIfInBounds_toArray, List.set_cons_zero, List.set_cons_succ]
      refine wpAnyH_take (i := 10) (oi := { dst := some 24, op := Op.call { callee := Callee.builtin Builtin.min, args := #[Operand.tmp 20, Operand.tmp 23], argTypes := #[3, 3] }, type := 3, pos := "picks.go:87", after := #[{ on := 6, ground := Ground.data }, { on := 9, ground := Ground.data }], guard := none }) (v := ?_) rfl (by kernel_rfl) (by kernel_rfl) (by kernel_rfl) (fun _ _ _ h => h) (Or.inl ⟨by rfl, ?_⟩) (by assumption) ?_
      rotate_left
      · (intro w hSw; (try dsimp only at hSw); go_simp); first | done | with_reducible rfl
      simp only [Act.put, List.setIfInBounds_toArray, List.set_cons_zero, List.set_cons_succ]
      refine wpAnyH_take (i := 11) (oi := { dst := some 25, op := Op.slice 24 (Operand.tmp 17) (some (Operand.tmp 18)) (some (Operand.tmp 24)) none, type := 24, pos := "picks.go:87", after := #[{ on := 3, ground := Ground.data }, { on := 4, ground := Ground.data }, { on := 10, ground := Ground.data }], guard := none }) (v := .slice none 0 0) rfl (by kernel_rfl) (by kernel_rfl) (by kernel_rfl) (fun _ _ _ h => h) (Or.inl ⟨by rfl, ?_⟩) (by assumption) ?_
      skip
      · (intro w hSw; (try dsimp only at hSw); go_simp); first | done | with_reducible rfl
      simp only [Act.put, List.setIfInBounds_toArray, List.set_cons_zero, List.set_cons_succ]
      refine wpAnyH_take (i := 12) (oi := { dst := some 26, op := Op.build 26 #[(0, Operand.tmp 15), (1, Operand.tmp 25)], type := 26, pos := "picks.go:87", after := #[{ on := 1, ground := Ground.data }, { on := 11, ground := Ground.data }], guard := none }) (v := ?_) rfl (by kernel_rfl) (by kernel_rfl) (by kernel_rfl) (fun _ _ _ h => h) (Or.inl ⟨by rfl, ?_⟩) (by assumption) ?_
      rotate_left
      · (intro w hSw; (try dsimp only at hSw); go_simp); first | done | with_reducible rfl
      simp only [Act.put, List.setIfInBounds_toArray, List.set_cons_zero, List.set_cons_succ]
      refine wpAnyH_ready (rs := [13]) (by kernel_rfl) (by simp) ?_
      refine AllReadyH.cons rfl (fun K hK => ?_) ?_
      rotate_left
      · exact AllReadyH.nil
      go_simp
      refine hK.out _ _ (HSt.out _ _ _ _ ?_ hco hn0 hc0) (fun hHeld => ?_)
      · exact setRow_other _ _ _ _ (by omega)
      clear hK K t8
      refine wpAnyH_done (by kernel_rfl) ?_ _
      clear hHeld
      go_wp2_with fail
      refine bodyPost_ret (resP rfl rfl HX8.out) rfl ?_
      exact HE.out
    | some ad =>
      have hcap := HS.out.cloud.cap
      by_cases hcc : p.cc = p.cn
      · obtain ⟨t8, x8, hE⟩ := HEn.out ⟨p.vo, p.vn, p.vc, some ad, 0, 0, ⟨p.P.vec, (p.P.cloud.drop p.cn).take 1⟩⟩ ⟨HS.out.vec, ssrc_none hl (Nat.le_refl _) (fun h => by cases h), HS.out.big⟩ rfl
        replace t8 : (stP (.pointer (some ⟨g1 + 1 + 1, 0, none⟩)) (.agg #[.slice p.vo p.vn p.vc, .slice (some ad) 0 0])).run Tryz.prog w4.drew = .ok () (w4.drew.setRow (g1 + 1 + 1) (PC ⟨p.vo, p.vn, p.vc, some ad, 0, 0, ⟨p.P.vec, (p.P.cloud.drop p.cn).take 1⟩⟩)) := t8
        have HX8 := hide x8
        have HE := hide hE
        clear x8 hE
        go_upto_region 2 with fail
        refine wp_region_held_drew (S := fun W => W.cell? ⟨g1, 0, none⟩ = some (.slice p.vo p.vn p.vc) ∧ W.cell? ⟨g1, 1, none⟩ = some (.slice (some ad) p.cn p.cn)) (by kernel_rfl) (HSt.out _ _ _ _ rfl hco rfl hcc) (fun hHeld => ?_)
        refine wpAnyH_take (i := 0) (oi := { dst := some 14, op := Op.fieldAddr 26 (Operand.tmp 2) 0, type := 0, pos := "picks.go:87", after := #[], guard := none }) (v := ?_) rfl (by kernel_rfl) (by kernel_rfl) (by kernel_rfl) (fun _ _ _ h => h) (Or.inl ⟨by rfl, ?_⟩) (by assumption) ?_
        rotate_left
        · (intro w hSw; (try dsimp only at hSw); go_simp); first | done | with_reducible rfl
        simp only [Act.put, List.setIfInBounds_toArray, List.set_cons_zero, List.set_cons_succ]
        refine wpAnyH_take (i := 1) (oi := { dst := some 15, op := Op.load 23 (Operand.tmp 14), type := 23, pos := "picks.go:87", after := #[{ on := 0, ground := Ground.data }], guard := none }) (v := ?_) rfl (by kernel_rfl) (by kernel_rfl) (by kernel_rfl) (fun _ _ _ h => h) (Or.inl ⟨by rfl, ?_⟩) (by assumption) ?_
        rotate_left
        · (intro w hSw; (try dsimp only at hSw); go_simp); first | done | with_reducible rfl
        simp only [Act.put, List.setIfInBounds_toArray, List.set_cons_zero, List.set_cons_succ]
        refine wpAnyH_take (i := 2) (oi := { dst := some 16, op := Op.fieldAddr 26 (Operand.tmp 2) 1, type := 0, pos := "picks.go:87", after := #[], guard := none }) (v := ?_) rfl (by kernel_rfl) (by kernel_rfl) (by kernel_rfl) (fun _ _ _ h => h) (Or.inl ⟨by rfl, ?_⟩) (by assumption) ?_
        rotate_left
        · (intro w hSw; (try dsimp only at hSw); go_simp); first | done | with_reducible rfl
        simp only [Act.put, List.setIfInBounds_toArray, List.set_cons_zero, List.set_cons_succ]
        refine wpAnyH_take (i := 3) (oi := { dst := some 17, op := Op.load 24 (Operand.tmp 16), type := 24, pos := "picks.go:87", after := #[{ on := 2, ground := Ground.data }], guard := none }) (v := ?_) rfl (by kernel_rfl) (by kernel_rfl) (by kernel_rfl) (fun _ _ _ h => h) (Or.inl ⟨by rfl, ?_⟩) (by assumption) ?_
        rotate_left
        · (intro w hSw; (try dsimp only at hSw); go_simp); first | done | with_reducible rfl
        simp only [Act.put, List.setIfInBounds_toArray, List.set_cons_zero, List.set_cons_succ]
        refine wpAnyH_take (i := 4) (oi := { dst := some 18, op := Op.move (Operand.tmp 5), type := 3, pos := "picks.go:87", after := #[], guard := none }) (v := ?_) rfl (by kernel_rfl) (by kernel_rfl) (by kernel_rfl) (fun _ _ _ h => h) (Or.inl ⟨by rfl, ?_⟩) (by assumption) ?_
        rotate_left
        · (intro w hSw; (try dsimp only at hSw); go_simp); first | done | with_reducible rfl
        simp only [Act.put, List.setIfInBounds_toArray, List.set_cons_zero, List.set_cons_succ]
        refine wpAnyH_take (i := 5) (oi := { dst := some 19, op := Op.move (Operand.tmp 5), type := 3, pos := "picks.go:87", after := #[], guard := none }) (v := ?_) rfl (by kernel_rfl) (by kernel_rfl) (by kernel_rfl) (fun _ _ _ h => h) (Or.inl ⟨by rfl, ?_⟩) (by assumption) ?_
        rotate_left
        · (intro w hSw; (try dsimp only at hSw); go_simp); first | done | with_reducible rfl
        simp only [Act.put, List.setIfInBounds_toArray, List.set_cons_zero, List.set_cons_succ]
        refine wpAnyH_take (i := 6) (oi := { dst := some 20, op := Op.binOp BinOp.add 3 (Operand.tmp 19) (Operand.const (Value.int IntKind.i64 1)) 3, type := 3, pos := "picks.go:87", after := #[{ on := 5, ground := Ground.data }], guard := none }) (v := ?_) rfl (by kernel_rfl) (by kernel_rfl) (by kernel_rfl) (fun _ _ _ h => h) (Or.inl ⟨by rfl, ?_⟩) (by assumption) ?_
        rotate_left
        · (intro w hSw; (try dsimp only at hSw); go_simp); first | done | with_reducible rfl
        simp only [Act.put, List.setIfInBounds_toArray, List.set_cons_zero, List.set_cons_succ]
        refine wpAnyH_take (i := 7) (oi := { dst := some 21, op := Op.fieldAddr 26 (Operand.tmp 2) 1, type := 0, pos := "picks.go:87", after := #[], guard := none }) (v := ?_) rfl (by kernel_rfl) (by kernel_rfl) (by kernel_rfl) (fun _ _ _ h => h) (Or.inl ⟨by rfl, ?_⟩) (by assumption) ?_
        rotate_left
        · (intro w hSw; (try dsimp only at hSw); go_simp); first | done | with_reducible rfl
        simp only [Act.put, List.setIfInBounds_toArray, List.set_cons_zero, List.set_cons_succ]
        refine wpAnyH_take (i := 8) (oi := { dst := some 22, op := Op.load 24 (Operand.tmp 21), type := 24, pos := "picks.go:87", after := #[{ on := 7, ground := Ground.data }], guard := none }) (v := ?_) rfl (by kernel_rfl) (by kernel_rfl) (by kernel_rfl) (fun _ _ _ h => h) (Or.inl ⟨by rfl, ?_⟩) (by assumption) ?_
        rotate_left
        · (intro w hSw; (try dsimp only at hSw); go_simp); first | done | with_reducible rfl
        simp only [Act.put, List.setIfInBounds_toArray, List.set_cons_zero, List.set_cons_succ]
        refine wpAnyH_take (i := 9) (oi := { dst := some 23, op := Op.call { callee := Callee.builtin Builtin.len, args := #[Operand.tmp 22], argTypes := #[24] }, type := 3, pos := "picks.go:87", after := #[{ on := 8, ground := Ground.data }], guard := none }) (v := ?_) rfl (by kernel_rfl) (by kernel_rfl) (by kernel_rfl) (fun _ _ _ h => h) (Or.inl ⟨by rfl, ?_⟩) (by assumption) ?_
        rotate_left
        · (intro w hSw; (try dsimp only at hSw); go_simp); first | done | with_reducible rfl
        simp only [Act.put, List.setIfInBounds_toArray, List.set_cons_zero, List.set_cons_succ]
        refine wpAnyH_take (i := 10) (oi := { dst := some 24, op := Op.call { callee := Callee.builtin Builtin.min, args := #[Operand.tmp 20, Operand.tmp 23], argTypes := #[3, 3] }, type := 3, pos := "picks.go:87", after := #[{ on := 6, ground := Ground.data }, { on := 9, ground := Ground.data }], guard := none }) (v := ?_) rfl (by kernel_rfl) (by kernel_rfl) (by kernel_rfl) (fun _ _ _ h => h) (Or.inl ⟨by rfl, ?_⟩) (by assumption) ?_
        rotate_left
        · (intro w hSw; (try dsimp only at hSw); go_simp); first | done | with_reducible rfl
        simp only [Act.put, List.setIfInBounds_toArray, List.set_cons_zero, List.set_cons_succ]
        refine wpAnyH_take (i := 11) (oi := { dst := some 25, op := Op.slice 24 (Operand.tmp 17) (some (Operand.tmp 18)) (some (Operand.tmp 24)) none, type := 24, pos := "picks.go:87", after := #[{ on := 3, ground := Ground.data }, { on := 4, ground := Ground.data }, { on := 10, ground := Ground.data }], guard := none }) (v := .slice (some ad) 0 0) rfl (by kernel_rfl) (by kernel_rfl) (by kernel_rfl) (fun _ _ _ h => h) (Or.inl ⟨by rfl, ?_⟩) (by assumption) ?_
        skip
        · (intro w hSw; (try dsimp only at hSw); go_simp); first | done | with_reducible rfl
        simp only [Act.put, List.setIfInBounds_toArray, List.set_cons_zero, List.set_cons_succ]
        refine wpAnyH_take (i := 12) (oi := { dst := some 26, op := Op.build 26 #[(0, Operand.tmp 15), (1, Operand.tmp 25)], type := 26, pos := "picks.go:87", after := #[{ on := 1, ground := Ground.data }, { on := 11, ground := Ground.data }], guard := none }) (v := ?_) rfl (by kernel_rfl) (by kernel_rfl) (by kernel_rfl) (fun _ _ _ h => h) (Or.inl ⟨by rfl, ?_⟩) (by assumption) ?_
        rotate_left
        · (intro w hSw; (try dsimp only at hSw); go_simp); first | done | with_reducible rfl
        simp only [Act.put, List.setIfInBounds_toArray, List.set_cons_zero, List.set_cons_succ]
        refine wpAnyH_ready (rs := [13]) (by kernel_rfl) (by simp) ?_
        refine AllReadyH.cons rfl (fun K hK => ?_) ?_
        rotate_left
        · exact AllReadyH.nil
        go_simp
        refine hK.out _ _ (HSt.out _ _ _ _ ?_ hco rfl hcc) (fun hHeld => ?_)
        · exact setRow_other _ _ _ _ (by omega)
        clear hK K t8
        refine wpAnyH_done (by kernel_rfl) ?_ _
        clear hHeld
        go_wp2_with fail
        refine bodyPost_ret (resP rfl rfl HX8.out) rfl ?_
        exact HE.out
      · obtain ⟨t8, x8, hE⟩ := HEn.out ⟨p.vo, p.vn, p.vc, some (ad.add (p.cn * 3)), 0, p.cc - p.cn, ⟨p.P.vec, (p.P.cloud.drop p.cn).take 1⟩⟩ ⟨HS.out.vec, ssrc_none hl (Nat.le_refl _) (fun h => by cases h), HS.out.big⟩ rfl
        replace t8 : (stP (.pointer (some ⟨g1 + 1 + 1, 0, none⟩)) (.agg #[.slice p.vo p.vn p.vc, .slice (some (ad.add (p.cn * 3))) 0 (p.cc - p.cn)])).run Tryz.prog w4.drew = .ok () (w4.drew.setRow (g1 + 1 + 1) (PC ⟨p.vo, p.vn, p.vc, some (ad.add (p.cn * 3)), 0, p.cc - p.cn, ⟨p.P.vec, (p.P.cloud.drop p.cn).take 1⟩⟩)) := t8
        have HX8 := hide x8
        have HE := hide hE
        clear x8 hE
        go_upto_region 2 with fail
        refine wp_region_held_drew (S := fun W => W.cell? ⟨g1, 0, none⟩ = some (.slice p.vo p.vn p.vc) ∧ W.cell? ⟨g1, 1, none⟩ = some (.slice (some ad) p.cn p.cc)) (by kernel_rfl) (HSt.out _ _ _ _ rfl hco rfl rfl) (fun hHeld => ?_)
        refine wpAnyH_take (i := 0) (oi := { dst := some 14, op := Op.fieldAddr 26 (Operand.tmp 2) 0, type := 0, pos := "picks.go:87", after := #[], guard := none }) (v := ?_) rfl (by kernel_rfl) (by kernel_rfl) (by kernel_rfl) (fun _ _ _ h => h) (Or.inl ⟨by rfl, ?_⟩) (by assumption) ?_
        rotate_left
        · (intro w hSw; (try dsimp only at hSw); go_simp); first | done | with_reducible rfl
        simp only [Act.put, List.setIfInBounds_toArray, List.set_cons_zero, List.set_cons_succ]
        refine wpAnyH_take (i := 1) (oi := { dst := some 15, op := Op.load 23 (Operand.tmp 14), type := 23, pos := "picks.go:87", after := #[{ on := 0, ground := Ground.data }], guard := none }) (v := ?_) rfl (by kernel_rfl) (by kernel_rfl) (by kernel_rfl) (fun _ _ _ h => h) (Or.inl ⟨by rfl, ?_⟩) (by assumption) ?_
        rotate_left
        · (intro w hSw; (try dsimp only at hSw); go_simp); first | done | with_reducible rfl
        simp only [Act.put, List.setIfInBounds_toArray, List.set_cons_zero, List.set_cons_succ]
        refine wpAnyH_take (i := 2) (oi := { dst := some 16, op := Op.fieldAddr 26 (Operand.tmp 2) 1, type := 0, pos := "picks.go:87", after := #[], guard := none }) (v := ?_) rfl (by kernel_rfl) (by kernel_rfl) (by kernel_rfl) (fun _ _ _ h => h) (Or.inl ⟨by rfl, ?_⟩) (by assumption) ?_
        rotate_left
        · (intro w hSw; (try dsimp only at hSw); go_simp); first | done | with_reducible rfl
        simp only [Act.put, List.setIfInBounds_toArray, List.set_cons_zero, List.set_cons_succ]
        refine wpAnyH_take (i := 3) (oi := { dst := some 17, op := Op.load 24 (Operand.tmp 16), type := 24, pos := "picks.go:87", after := #[{ on := 2, ground := Ground.data }], guard := none }) (v := ?_) rfl (by kernel_rfl) (by kernel_rfl) (by kernel_rfl) (fun _ _ _ h => h) (Or.inl ⟨by rfl, ?_⟩) (by assumption) ?_
        rotate_left
        · (intro w hSw; (try dsimp only at hSw); go_simp); first | done | with_reducible rfl
        simp only [Act.put, List.setIfInBounds_toArray, List.set_cons_zero, List.set_cons_succ]
        refine wpAnyH_take (i := 4) (oi := { dst := some 18, op := Op.move (Operand.tmp 5), type := 3, pos := "picks.go:87", after := #[], guard := none }) (v := ?_) rfl (by kernel_rfl) (by kernel_rfl) (by kernel_rfl) (fun _ _ _ h => h) (Or.inl ⟨by rfl, ?_⟩) (by assumption) ?_
        rotate_left
        · (intro w hSw; (try dsimp only at hSw); go_simp); first | done | with_reducible rfl
        simp only [Act.put, List.setIfInBounds_toArray, List.set_cons_zero, List.set_cons_succ]
        refine wpAnyH_take (i := 5) (oi := { dst := some 19, op := Op.move (Operand.tmp 5), type := 3, pos := "picks.go:87", after := #[], guard := none }) (v := ?_) rfl (by kernel_rfl) (by kernel_rfl) (by kernel_rfl) (fun _ _ _ h => h) (Or.inl ⟨by rfl, ?_⟩) (by assumption) ?_
        rotate_left
        · (intro w hSw; (try dsimp only at hSw); go_simp); first | done | with_reducible rfl
        simp only [Act.put, List.setIfInBounds_toArray, List.set_cons_zero, List.set_cons_succ]
        refine wpAnyH_take (i := 6) (oi := { dst := some 20, op := Op.binOp BinOp.add 3 (Operand.tmp 19) (Operand.const (Value.int IntKind.i64 1)) 3, type := 3, pos := "picks.go:87", after := #[{ on := 5, ground := Ground.data }], guard := none }) (v := ?_) rfl (by kernel_rfl) (by kernel_rfl) (by kernel_rfl) (fun _ _ _ h => h) (Or.inl ⟨by rfl, ?_⟩) (by assumption) ?_
        rotate_left
        · (intro w hSw; (try dsimp only at hSw); go_simp); first | done | with_reducible rfl
        simp only [Act.put, List.setIfInBounds_toArray, List.set_cons_zero, List.set_cons_succ]
        refine wpAnyH_take (i := 7) (oi := { dst := some 21, op := Op.fieldAddr 26 (Operand.tmp 2) 1, type := 0, pos := "picks.go:87", after := #[], guard := none }) (v := ?_) rfl (by kernel_rfl) (by kernel_rfl) (by kernel_rfl) (fun _ _ _ h => h) (Or.inl ⟨by rfl, ?_⟩) (by assumption) ?_
        rotate_left
        · (intro w hSw; (try dsimp only at hSw); go_simp); first | done | with_reducible rfl
        simp only [Act.put, List.setIfInBounds_toArray, List.set_cons_zero, List.set_cons_succ]
        refine wpAnyH_take (i := 8) (oi := { dst := some 22, op := Op.load 24 (Operand.tmp 21), type := 24, pos := "picks.go:87", after := #[{ on := 7, ground := Ground.data }], guard := none }) (v := ?_) rfl (by kernel_rfl) (by kernel_rfl) (by kernel_rfl) (fun _ _ _ h => h) (Or.inl ⟨by rfl, ?_⟩) (by assumption) ?_
        rotate_left
        · (intro w hSw; (try dsimp only at hSw); go_simp); first | done | with_reducible rfl
        simp only [Act.put, List.setIfInBounds_toArray, List.set_cons_zero, List.set_cons_succ]
        refine wpAnyH_take (i := 9) (oi := { dst := some 23, op := Op.call { callee := Callee.builtin Builtin.len, args := #[Operand.tmp 22], argTypes := #[24] }, type := 3, pos := "picks.go:87", after := #[{ on := 8, ground := Ground.data }], guard := none }) (v := ?_) rfl (by kernel_rfl) (by kernel_rfl) (by kernel_rfl) (fun _ _ _ h => h) (Or.inl ⟨by rfl, ?_⟩) (by assumption) ?_
        rotate_left
        · (intro w hSw; (try dsimp only at hSw); go_simp); first | done | with_reducible rfl
        simp only [Act.put, List.setIfInBounds_toArray, List.set_cons_zero, List.set_cons_succ]
        refine wpAnyH_take (i := 10) (oi := { dst := some 24, op := Op.call { callee := Callee.builtin Builtin.min, args := #[Operand.tmp 20, Operand.tmp 23], argTypes := #[3, 3] }, type := 3, pos := "picks.go:87", after := #[{ on := 6, ground := Ground.data }, { on := 9, ground := Ground.data }], guard := none }) (v := ?_) rfl (by kernel_rfl) (by kernel_rfl) (by kernel_rfl) (fun _ _ _ h => h) (Or.inl ⟨by rfl, ?_⟩) (by assumption) ?_
        rotate_left
        · (intro w hSw; (try dsimp only at hSw); go_simp); first | done | with_reducible rfl
        simp only [Act.put, List.setIfInBounds_toArray, List.set_cons_zero, List.set_cons_succ]
        refine wpAnyH_take (i := 11) (oi := { dst := some 25, op := Op.slice 24 (Operand.tmp 17) (some (Operand.tmp 18)) (some (Operand.tmp 24)) none, type := 24, pos := "picks.go:87", after := #[{ on := 3, ground := Ground.data }, { on := 4, ground := Ground.data }, { on := 10, ground := Ground.data }], guard := none }) (v := .slice (some (ad.add (p.cn * 3))) 0 (p.cc - p.cn)) rfl (by kernel_rfl) (by kernel_rfl) (by kernel_rfl) (fun _ _ _ h => h) (Or.inl ⟨by rfl, ?_⟩) (by assumption) ?_
        skip
        · (intro w hSw; (try dsimp only at hSw); go_simp); first | done | with_reducible rfl
        simp only [Act.put, List.setIfInBounds_toArray, List.set_cons_zero, List.set_cons_succ]
        refine wpAnyH_take (i := 12) (oi := { dst := some 26, op := Op.build 26 #[(0, Operand.tmp 15), (1, Operand.tmp 25)], type := 26, pos := "picks.go:87", after := #[{ on := 1, ground := Ground.data }, { on := 11, ground := Ground.data }], guard := none }) (v := ?_) rfl (by kernel_rfl) (by kernel_rfl) (by kernel_rfl) (fun _ _ _ h => h) (Or.inl ⟨by rfl, ?_⟩) (by assumption) ?_
        rotate_left
        · (intro w hSw; (try dsimp only at hSw); go_simp); first | done | with_reducible rfl
        simp only [Act.put, List.setIfInBounds_toArray, List.set_cons_zero, List.set_cons_succ]
        refine wpAnyH_ready (rs := [13]) (by kernel_rfl) (by simp) ?_
        refine AllReadyH.cons rfl (fun K hK => ?_) ?_
        rotate_left
        · exact AllReadyH.nil
        go_simp
        refine hK.out _ _ (HSt.out _ _ _ _ ?_ hco rfl rfl) (fun hHeld => ?_)
        · exact setRow_other _ _ _ _ (by omega)
        clear hK K t8
        refine wpAnyH_done (by kernel_rfl) ?_ _
        clear hHeld
        go_wp2_with fail
        refine bodyPost_ret (resP rfl rfl HX8.out) rfl ?_
        exact HE.out
end Go.Proofs.YtooinnhjeloocaaGreat
namespace Go.Proofs.YtooinnhjeloocaaGreat.K
open Go.RowKit

theorem hide {p : Prop} (h : p) : Hid p := h
def dig (c : UInt8) : Bool := decide (48 ≤ (c.toNat : Int)) && decide ((c.toNat : Int) ≤ 57)
theorem ret_bool {a b : Bool} (h : a = b) : Ending.returned (.bool a) = .returned (.bool b) := by rw [h]
theorem ret_int {k : IntKind} {a b : Int} (h : a = b) : Ending.returned (.int k a) = .returned (.int k b) := by rw [h]
theorem ret_two {a a' b b' : Int} (h : a = a') (h2 : b = b') : Ending.returned (.tuple #[.int .i64 a, .int .i64 b]) = .returned (.tuple #[.int .i64 a', .int .i64 b']) := by rw [h, h2]
theorem empty_yes (s : ByteArray) (h : s.size = 0) : s.toList.isEmpty = true := by
  rw [ByteArray.toList_eq, List.isEmpty_iff, ← List.length_eq_zero_iff]; simpa using h
theorem empty_no (s : ByteArray) (h : ¬ s.size = 0) : s.toList.isEmpty = false := by
  rw [ByteArray.toList_eq, List.isEmpty_eq_false_iff, ← List.length_pos_iff]; have : s.data.size = s.size := rfl; simp; omega
end Go.Proofs.YtooinnhjeloocaaGreat.K
namespace Go.Proofs.YtooinnhjeloocaaGreat.K
open Go.RowKit

def mk (c : UInt8) : Bool := ((c.toNat : Int) == 45) || ((c.toNat : Int) == 46)
def lt (c : UInt8) : Bool := decide (65 ≤ (c.toNat : Int)) && decide ((c.toNat : Int) ≤ 90)

set_option maxHeartbeats 800000 in
theorem isMark_any (c : UInt8) (w : World) : Calls Tryz.prog 94 #[.int .u8 (c.toNat : Int)] w fun e w' => e = .returned (.bool (mk c)) ∧ w' = w := by
  by_cases h : (c.toNat : Int) = 45
  · have h' : ((c.toNat : Int) == 45) = true := by simpa using h
    have HM : Hid (mk c = true) := by show _ = _; unfold mk; rw [h']; rfl
    clear h
    go_enter Tryz.func94, Tryz.ntmps94
    go_wp2
    go_ret
    exact ⟨ret_bool HM.out.symm, rfl⟩
  · have h' : ((c.toNat : Int) == 45) = false := by simpa using h
    have HM : Hid (((c.toNat : Int) == 46) = mk c) := by show _ = _; unfold mk; rw [h']; rfl
    clear h
    go_enter Tryz.func94, Tryz.ntmps94
    go_wp2
    go_ret
    exact ⟨ret_bool HM.out, rfl⟩
set_option maxHeartbeats 800000 in
theorem isLetter_any (c : UInt8) (w : World) : Calls Tryz.prog 95 #[.int .u8 (c.toNat : Int)] w fun e w' => e = .returned (.bool (lt c)) ∧ w' = w := by
  by_cases h : 65 ≤ (c.toNat : Int)
  · have HM : Hid (decide ((c.toNat : Int) ≤ 90) = lt c) := by show _ = _; unfold lt; rw [decide_eq_true h, Bool.true_and]
    go_enter Tryz.func95, Tryz.ntmps95
    go_wp2
    go_ret
    exact ⟨ret_bool HM.out, rfl⟩
  · have HM : Hid (false = lt c) := by show _ = _; unfold lt; rw [decide_eq_false h, Bool.false_and]
    go_enter Tryz.func95, Tryz.ntmps95
    go_wp2
    go_ret
    exact ⟨ret_bool HM.out, rfl⟩
set_option maxHeartbeats 800000 in
theorem isDigit_any (c : UInt8) (w : World) : Calls Tryz.prog 96 #[.int .u8 (c.toNat : Int)] w fun e w' => e = .returned (.bool (dig c)) ∧ w' = w := by
  by_cases h : 48 ≤ (c.toNat : Int)
  · have HM : Hid (decide ((c.toNat : Int) ≤ 57) = dig c) := by show _ = _; unfold dig; rw [decide_eq_true h, Bool.true_and]
    go_enter Tryz.func96, Tryz.ntmps96
    go_wp2
    go_ret
    exact ⟨ret_bool HM.out, rfl⟩
  · have HM : Hid (false = dig c) := by show _ = _; unfold dig; rw [decide_eq_false h, Bool.false_and]
    go_enter Tryz.func96, Tryz.ntmps96
    go_wp2
    go_ret
    exact ⟨ret_bool HM.out, rfl⟩

/-- may the byte at place i stand there? -/
def stand (l : List UInt8) (i : Nat) : Bool :=
  if mk (l.getD i 0) = true then (decide (0 < i) && decide (i + 1 < l.length)) && !mk (l.getD (i - 1) 0) else lt (l.getD i 0) || dig (l.getD i 0)
theorem getD_at (s : ByteArray) (i : Nat) (h : i < s.size) : s.data.toList.getD i 0 = s[i] := by
  rw [List.getD, List.getElem?_eq_getElem (by simpa using h)]; rfl
theorem len_at (s : ByteArray) : s.data.toList.length = s.size := by simp

set_option maxHeartbeats 1600000 in
theorem canStand_any (s : ByteArray) (i : Nat) (w : World) (hi : i < s.size) (hs : s.size ≤ 1000) : Calls Tryz.prog 70 #[.string s, .int .i64 i] w fun e w' => e = .returned (.bool (stand s.data.toList i)) ∧ w' = w := by
  cases hm : mk s[i] with
  | true =>
    have HM := hide hm
    clear hm
    by_cases h0 : 0 < i
    · by_cases h1 : i + 1 < s.size
      · have HS : Hid ((!mk (s[i - 1]'(by omega))) = stand s.data.toList i) := by
          show _ = _
          unfold stand
          rw [getD_at s i hi, getD_at s (i - 1) (by omega), len_at, if_pos HM.out, decide_eq_true h0, decide_eq_true h1]; rfl
        have hz : ((i : Int) - 1).toNat = i - 1 := by omega
        have h1' : (i : Int) < (s.size : Int) - 1 := by omega
        have hK := hide (isMark_any (s[i - 1]'(by omega)))
        obtain ⟨x, hx⟩ : ∃ x : Int, ((s[i - 1]'(by omega)).toNat : Int) = x := ⟨_, rfl⟩
        rw [hx] at hK
        go_enter Tryz.func70, Tryz.ntmps70
        go_wp2_with fail
        refine (isMark_any s[i] _).mono ?_
        rintro e w' ⟨rfl, rfl⟩
        rw [HM.out]
        go_wp2_with fail
        refine (hK.out _).mono ?_
        rintro e w' ⟨rfl, rfl⟩
        go_wp2
        go_ret
        exact ⟨ret_bool HS.out, rfl⟩
      · have HS : Hid (false = stand s.data.toList i) := by
          show _ = _
          unfold stand
          rw [getD_at s i hi, len_at, if_pos HM.out, decide_eq_true h0, decide_eq_false h1]; rfl
        have h1' : ¬ (i : Int) < (s.size : Int) - 1 := by omega
        go_enter Tryz.func70, Tryz.ntmps70
        go_wp2_with fail
        refine (isMark_any s[i] _).mono ?_
        rintro e w' ⟨rfl, rfl⟩
        rw [HM.out]
        go_wp2
        go_ret
        exact ⟨ret_bool HS.out, rfl⟩
    · have HS : Hid (false = stand s.data.toList i) := by
        show _ = _
        unfold stand
        rw [getD_at s i hi, len_at, if_pos HM.out, decide_eq_false h0]; rfl
      obtain rfl : i = 0 := by omega
      go_enter Tryz.func70, Tryz.ntmps70
      go_wp2_with fail
      refine (isMark_any s[0] _).mono ?_
      rintro e w' ⟨rfl, rfl⟩
      rw [HM.out]
      go_wp2
      go_ret
      exact ⟨ret_bool HS.out, rfl⟩
  | false =>
    have HM := hide hm
    clear hm
    cases hl : lt s[i] with
    | true =>
      have HLt := hide hl
      clear hl
      have HS : Hid (true = stand s.data.toList i) := by
        show _ = _
        unfold stand
        rw [getD_at s i hi, if_neg (by rw [HM.out]; simp), HLt.out]; rfl
      go_enter Tryz.func70, Tryz.ntmps70
      go_wp2_with (first | (go_at_call 94; refine (isMark_any s[i] _).mono ?_; rintro e w' ⟨rfl, rfl⟩; rw [HM.out]) | (go_at_call 95; refine (isLetter_any s[i] _).mono ?_; rintro e w' ⟨rfl, rfl⟩; rw [HLt.out]))
      go_ret
      exact ⟨ret_bool HS.out, rfl⟩
    | false =>
      have HLt := hide hl
      clear hl
      have HS : Hid (dig s[i] = stand s.data.toList i) := by
        show _ = _
        unfold stand
        rw [getD_at s i hi, if_neg (by rw [HM.out]; simp), HLt.out]; rfl
      go_enter Tryz.func70, Tryz.ntmps70
      go_wp2_with (first | (go_at_call 94; refine (isMark_any s[i] _).mono ?_; rintro e w' ⟨rfl, rfl⟩; rw [HM.out]) | (go_at_call 95; refine (isLetter_any s[i] _).mono ?_; rintro e w' ⟨rfl, rfl⟩; rw [HLt.out]) | (go_at_call 96; refine (isDigit_any s[i] _).mono ?_; rintro e w' ⟨rfl, rfl⟩))
      go_ret
      exact ⟨ret_bool HS.out, rfl⟩

/-- do the first k bytes stand? -/
def stands (l : List UInt8) (k : Nat) : Bool := (List.range k).all (stand l)
/-- Check's error -/
def ckE (l : List UInt8) : Int := if l.length = 0 then 20 else if 24 < l.length then 21 else if stands l l.length = true then 0 else 22
theorem stands_succ (l : List UInt8) (k : Nat) : stands l (k + 1) = (stands l k && stand l k) := by
  unfold stands; rw [List.range_succ, List.all_append]; simp
theorem stands_no (l : List UInt8) (k n : Nat) (h : k < n) (hs : stand l k = false) : stands l n = false := by
  unfold stands; rw [List.all_eq_false]; exact ⟨k, by simpa using h, by rw [hs]; simp⟩

set_option maxHeartbeats 1600000 in
theorem check_any (s : ByteArray) (w : World) (hs : s.size ≤ maxLen) : Calls Tryz.prog 58 #[.string s] w fun e w' => (∃ p : Int, e = .returned (.tuple #[.int .i64 p, .int .i64 (ckE s.data.toList)])) ∧ w' = w := by
  unfold maxLen at hs
  by_cases h0 : s.size = 0
  · have he := empty_yes s h0
    have HE : Hid (ckE s.data.toList = 20) := by show _ = _; unfold ckE; rw [len_at, if_pos h0]
    go_enter Tryz.func58, Tryz.ntmps58
    go_wp2
    go_ret2
    exact ⟨⟨0, ret_two rfl HE.out.symm⟩, rfl⟩
  have he := empty_no s h0
  by_cases h24 : 24 < s.size
  · have HE : Hid (ckE s.data.toList = 21) := by show _ = _; unfold ckE; rw [len_at, if_neg h0, if_pos h24]
    have h24' : (24 : Int) < s.size := by omega
    go_enter Tryz.func58, Tryz.ntmps58
    go_wp2
    go_ret2
    exact ⟨⟨0, ret_two rfl HE.out.symm⟩, rfl⟩
  have h24' : ¬ (24 : Int) < s.size := by omega
  have HE : Hid (ckE s.data.toList = if stands s.data.toList s.size = true then 0 else 22) := by show _ = _; unfold ckE; rw [len_at, if_neg h0, if_neg h24]
  go_enter Tryz.func58, Tryz.ntmps58
  go_wp2
  go_loop [12] (fun i => ∃ k : Nat, k ≤ s.size ∧ i = .int .i64 k ∧ Hid (stands s.data.toList k = true)) (fun i => s.size - (intOf i).toNat)
  case atStart => exact ⟨0, Nat.zero_le _, rfl, rfl⟩
  case round =>
    obtain ⟨k, hk, rfl, HK⟩ := hrel
    by_cases hlt : k < s.size
    · cases hst : stand s.data.toList k with
      | true =>
        have HST := hide hst
        clear hst
        go_wp2_with (go_at_call 70; refine (canStand_any s k _ hlt (by omega)).mono ?_; rintro e w' ⟨rfl, rfl⟩; rw [HST.out])
        go_round
        case rel => exact ⟨k + 1, by omega, by go_num, by show _ = _; rw [stands_succ, HK.out, HST.out]; rfl⟩
        case measure => simp [intOf]; omega
      | false =>
        have HST := hide hst
        clear hst
        have HF : Hid (ckE s.data.toList = 22) := by show _ = _; rw [HE.out, stands_no _ k _ hlt HST.out]; rfl
        go_wp2_with (go_at_call 70; refine (canStand_any s k _ hlt (by omega)).mono ?_; rintro e w' ⟨rfl, rfl⟩; rw [HST.out])
        go_ret2
        exact ⟨⟨k, ret_two rfl HF.out.symm⟩, rfl⟩
    · obtain rfl : k = s.size := by omega
      have HF : Hid (ckE s.data.toList = 0) := by show _ = _; rw [HE.out, if_pos HK.out]
      go_wp2
      go_ret2
      exact ⟨⟨0, ret_two rfl HF.out.symm⟩, rfl⟩

def good (l : List UInt8) : Bool := ckE l == 0
set_option maxHeartbeats 800000 in
theorem good_any (s : ByteArray) (w : World) (hs : s.size ≤ maxLen) : Calls Tryz.prog 34 #[.string s] w fun e w' => e = .returned (.bool (good s.data.toList)) ∧ w' = w := by
  have HS := hide hs
  clear hs
  go_enter Tryz.func34, Tryz.ntmps34
  go_wp2_with (go_at_call 58; refine (check_any s _ HS.out).mono ?_; rintro e w' ⟨⟨p, rfl⟩, rfl⟩)
  go_ret
  exact ⟨rfl, rfl⟩
end Go.Proofs.YtooinnhjeloocaaGreat.K
