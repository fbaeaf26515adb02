import Derived.Test.YtiogmeaianogmaaPCl
import Derived.Laws.StructEq
import Derived.Test.YtiogmeaianogmaaPMm
import Derived.Test.YtiogmeaianogmaaPLp
/- The reference's Same of two pasts: its contract. -/
namespace Go.Proofs.Ytiogmeaianogmaa
open Go.RowKit
attribute [local go_sem ↓] ldP_eq stP_eq ldS_eq
attribute [local go_sem] zero_PC cells_PV fold_PC PC_size

def eqS (x y : Sn) : Bool := x.rep == y.rep && x.lo == y.lo && x.hi == y.hi
theorem eqS_iff (x y : Sn) : eqS x y = true ↔ x = y := by
  obtain ⟨a, b, c⟩ := x
  obtain ⟨a', b', c'⟩ := y
  simp [eqS, and_assoc]
theorem run_eqS (x y : Sn) (w : World) : (Op.equalIn 10000 50 (.agg (SC x)) (.agg (SC y))).run Try.prog w = .ok (eqS x y) w := by
  have u3 := Try.underlying3
  have a3 := Try.isAgg3
  have z3 := Try.sizeOf3
  have hS : Try.prog.underlying 50 = some (.struct (Try.prog.fieldsOf 50)) := by kernel_rfl
  have hp : Try.prog.stoodInHeld 50 = false := by kernel_rfl
  obtain ⟨a, b, c⟩ := x
  obtain ⟨a', b', c'⟩ := y
  show (Op.equalIn 10000 50 (.agg #[.int .i64 a, .int .i64 b, .int .i64 c]) (.agg #[.int .i64 a', .int .i64 b', .int .i64 c'])).run Try.prog w = .ok (a == a' && b == b' && c == c') w
  rw [show (10000 : Nat) = 9999 + 1 from rfl, run_equalIn_struct w 9999 50 _ _ hS hp]
  simp only [Program.fieldsOf, Try.underlying50]
  have h3 : ∀ (p q : Int) w, (Op.equalIn 9999 3 (.int .i64 p) (.int .i64 q)).run Try.prog w = .ok (p == q) w := fun p q w => run_equalIn_int w 9998 3 .i64 .i64 p q Try.underlying3
  obtain ⟨D, hD⟩ : ∃ D, 9999 = D := ⟨9999, rfl⟩
  rw [hD] at h3 ⊢
  go_simp
  by_cases e1 : a = a'
  · by_cases e2 : b = b'
    · by_cases e3 : c = c'
      · simp [e1, e2, e3]
      · simp [e1, e2, e3]
    · simp [e1, e2]
  · simp [e1]
attribute [local go_sem ↓] run_eqS
theorem take_snocS (l : List Sn) (k : Nat) (h : k < l.length) : l.take (k + 1) = l.take k ++ [l.getD k sn0] := by
  rw [List.take_succ_eq_append_getElem h]; simp [List.getD, h]
theorem take_snocI (l : List Int) (k : Nat) (h : k < l.length) : l.take (k + 1) = l.take k ++ [l.getD k 0] := by
  rw [List.take_succ_eq_append_getElem h]; simp [List.getD, h]
def GivesB (w w' : World) (e : Ending) (P : Prop) : Prop := ∃ x, e = .returned (.bool x) ∧ (x = true ↔ P) ∧ Below w.heap.size w w'
theorem vsrc_at {w : World} {ao : Option Addr} {n c : Nat} {Z : List Int} (S : V.Src w ao n c Z) (k : Nat) (h : k < n) : ∃ ad, ao = some ad ∧ w.cell? (ad.add k) = some (.int .i64 (Z.getD k 0)) := by
  cases ao with
  | none => have := S.2.1 rfl; omega
  | some ad => exact ⟨ad, rfl, S.2.2 ad rfl k h⟩

set_option maxRecDepth 100000 in
set_option maxHeartbeats 4000000 in
theorem samePast_any (a b : Pv) (w : World) (hA : PSrc w a) (hB : PSrc w b) :
    Calls Try.prog 7 #[PV a, PV b] w fun e w' => GivesB w w' e (a.P = b.P) := by
  have b1 := below_new w (.cells (PC a) 25)
  have b2 := below_new (w.alloc (.cells (PC a) 25)) (.cells (PC b) 25)
  have p2 := pbox_new (w.alloc (.cells (PC a) 25)) b
  rw [World.size_alloc] at p2
  have HPA := hide ((pbox_new w a).below b2)
  have HPB := hide p2
  have HBK := hide (b1.trans (b2.mono b1.size))
  have HSA := hide (hA.below HBK.out)
  have HSB := hide (hB.below HBK.out)
  obtain ⟨wk, hwk⟩ : ∃ wk, (w.alloc (.cells (PC a) 25)).alloc (.cells (PC b) 25) = wk := ⟨_, rfl⟩
  rw [hwk] at HPA HPB HBK HSA HSB
  obtain ⟨a0, a1⟩ := HPA.out.nums
  obtain ⟨c0, c1⟩ := HPB.out.nums
  have HVA := hide HSA.out.vec
  have HVB := hide HSB.out.vec
  have HCA := hide HSA.out.cloud
  have HCB := hide HSB.out.cloud
  have g1 := hA.big
  have g2 := hA.cloud.big
  have g3 := hB.big
  have g4 := hB.cloud.big
  clear b1 b2 p2 hA hB HSA HSB
  obtain ⟨avo, avn, avc, aco, acn, acc, aP⟩ := a
  obtain ⟨bvo, bvn, bvc, bco, bcn, bcc, bP⟩ := b
  dsimp only at a0 a1 c0 c1 HVA HVB HCA HCB g1 g2 g3 g4 ⊢
  have HLA : Hid (aP.vec.length = avn) := HVA.out.1
  have HLB : Hid (bP.vec.length = bvn) := HVB.out.1
  have HKA := hide HCA.out.len
  have HKB := hide HCB.out.len
  by_cases hv : avn = bvn
  · by_cases hc : acn = bcn
    · subst hv hc
      go_enter Try.func7, Try.ntmps7
      go_wp2_with fail
      clear hwk
      go_loopw [5] (fun i wr => ∃ k : Nat, k ≤ avn ∧ i = .int .i64 k ∧ Hid (aP.vec.take k = bP.vec.take k) ∧ Hid (Below wk.heap.size wk wr)) (fun i _ => avn - (intOf i).toNat)
      case atStart => exact ⟨0, Nat.zero_le _, rfl, rfl, Below.refl _ _⟩
      case round =>
        obtain ⟨k, hk, rfl, HT, HB⟩ := hrel
        rename World => w6
        have a0' := (HB.out.cell (World.block_lt_of_cell? _ _ a0)).trans a0
        have c0' := (HB.out.cell (World.block_lt_of_cell? _ _ c0)).trans c0
        by_cases hlt : k < avn
        · obtain ⟨ad, rfl, q1⟩ := vsrc_at (HVA.out.below HB.out) k hlt
          obtain ⟨bd, rfl, q2⟩ := vsrc_at (HVB.out.below HB.out) k hlt
          have t1 := hide (take_snocI aP.vec k (by rw [HLA.out]; exact hlt))
          have t2 := hide (take_snocI bP.vec k (by rw [HLB.out]; exact hlt))
          obtain ⟨x, Hx⟩ : ∃ x, Hid (aP.vec.getD k 0 = x) := ⟨_, rfl⟩
          obtain ⟨y, Hy⟩ : ∃ y, Hid (bP.vec.getD k 0 = y) := ⟨_, rfl⟩
          rw [Hx.out] at q1 t1
          rw [Hy.out] at q2 t2
          have r1 := cell_regrown a0'
          have r2 := cell_regrown c0'
          have r3 := cell_regrown q1
          have r4 := cell_regrown q2
          clear q1 q2
          by_cases he : x = y
          · have HE := hide he
            have he' : (x != y) = false := by simp [he]
            clear he
            go_wp2_with fail
            refine wp_region_quiet_below (by kernel_rfl) (by kernel_rfl) ?_
            repeat (with_reducible (refine wpQuiet_step ?_); intro K hK; go_simp; (try rw [if_neg (by unfold undef; simp)]); first | (with_reducible (refine hK _ ?_); clear hK K) | (apply Exists.intro; refine ⟨fun _ => ?_, hK _ ?_⟩; (fail); clear hK K))
            with_reducible (refine wpQuiet_nil ?_)
            intro w7 hw'
            obtain ⟨⟨dq, osq⟩, hw''⟩ := hw'
            have b7 : Below w6.heap.size w6 w7 := by rw [hw'']; exact below_regrown w6 dq osq
            have HB7 := hide (HB.out.trans (b7.mono HB.out.size))
            clear hw'' dq osq b7
            clear r1 r2 r3 r4
            go_wp2_with fail
            go_roundw
            case rel => exact ⟨k + 1, by omega, by go_num, by show _ = _; rw [t1.out, t2.out, HT.out, HE.out], HB7.out⟩
            case measure => simp [intOf]; omega
          · have he' : (x != y) = true := by simp [he]
            have HNO : Hid (¬ aP = bP) := fun h => he (by rw [← Hx.out, ← Hy.out, h])
            clear he
            go_wp2_with fail
            refine wp_region_quiet_below (by kernel_rfl) (by kernel_rfl) ?_
            repeat (with_reducible (refine wpQuiet_step ?_); intro K hK; go_simp; (try rw [if_neg (by unfold undef; simp)]); first | (with_reducible (refine hK _ ?_); clear hK K) | (apply Exists.intro; refine ⟨fun _ => ?_, hK _ ?_⟩; (fail); clear hK K))
            with_reducible (refine wpQuiet_nil ?_)
            intro w7 hw'
            obtain ⟨⟨dq, osq⟩, hw''⟩ := hw'
            have b7 : Below w6.heap.size w6 w7 := by rw [hw'']; exact below_regrown w6 dq osq
            have HB7 := hide (HB.out.trans (b7.mono HB.out.size))
            clear hw'' dq osq b7
            clear r1 r2 r3 r4
            have HBE := hide (HBK.out.trans (HB7.out.mono HBK.out.size))
            go_wp2_with fail
            go_ret
            exact ⟨false, rfl, ⟨(fun h => by cases h), fun h => absurd h HNO.out⟩, HBE.out⟩
        · obtain rfl : k = avn := by omega
          have HVE : Hid (aP.vec = bP.vec) := by
            show _ = _
            have h := HT.out
            rw [List.take_of_length_le (by rw [HLA.out]; exact Nat.le_refl _), List.take_of_length_le (by rw [HLB.out]; exact Nat.le_refl _)] at h
            exact h
          go_wp2_with fail
          go_loopw [6] (fun i wr => ∃ k : Nat, k ≤ acn ∧ i = .int .i64 k ∧ Hid (aP.cloud.take k = bP.cloud.take k) ∧ Hid (Below wk.heap.size wk wr)) (fun i _ => acn - (intOf i).toNat)
          case atStart => exact ⟨0, Nat.zero_le _, rfl, rfl, HB.out⟩
          case round =>
            obtain ⟨j, hj, rfl, HT, HB⟩ := hrel
            rename World => w6
            have a1' := (HB.out.cell (World.block_lt_of_cell? _ _ a1)).trans a1
            have c1' := (HB.out.cell (World.block_lt_of_cell? _ _ c1)).trans c1
            by_cases hlt : j < acn
            · obtain ⟨ad, rfl, q1⟩ := (HCA.out.below HB.out).at j hlt
              obtain ⟨bd, rfl, q2⟩ := (HCB.out.below HB.out).at j hlt
              have t1 := hide (take_snocS aP.cloud j (by rw [HKA.out]; exact hlt))
              have t2 := hide (take_snocS bP.cloud j (by rw [HKB.out]; exact hlt))
              obtain ⟨x, Hx⟩ : ∃ x, Hid (aP.cloud.getD j sn0 = x) := ⟨_, rfl⟩
              obtain ⟨y, Hy⟩ : ∃ y, Hid (bP.cloud.getD j sn0 = y) := ⟨_, rfl⟩
              rw [Hx.out] at q1 t1
              rw [Hy.out] at q2 t2
              have r1 := cell_regrown a1'
              have r2 := cell_regrown c1'
              have r3 : ∀ d os, (ldS (.pointer (some (ad.add (j * 3))))).run Try.prog (Sort.grow (redrawn w6 d) os) = .ok (SV x) (Sort.grow (redrawn w6 d) os) := fun d os => run_ldS (q1.on (below_regrown w6 d os))
              have r4 : ∀ d os, (ldS (.pointer (some (bd.add (j * 3))))).run Try.prog (Sort.grow (redrawn w6 d) os) = .ok (SV y) (Sort.grow (redrawn w6 d) os) := fun d os => run_ldS (q2.on (below_regrown w6 d os))
              clear q1 q2
              obtain ⟨z, hz⟩ : ∃ z, eqS x y = z := ⟨_, rfl⟩
              have HZ : Hid (z = true ↔ x = y) := by rw [← hz]; exact eqS_iff x y
              cases z with
              | true =>
                have HXY := hide (HZ.out.1 rfl)
                clear HZ
                go_wp2_with fail
                refine wp_region_quiet_below (by kernel_rfl) (by kernel_rfl) ?_
                repeat (with_reducible (refine wpQuiet_step ?_); intro K hK; go_simp; (try rw [if_neg (by unfold undef; simp)]); first | (with_reducible (refine hK _ ?_); clear hK K) | (apply Exists.intro; refine ⟨fun _ => ?_, hK _ ?_⟩; (fail); clear hK K))
                with_reducible (refine wpQuiet_nil ?_)
                intro w7 hw'
                obtain ⟨⟨dq, osq⟩, hw''⟩ := hw'
                have b7 : Below w6.heap.size w6 w7 := by rw [hw'']; exact below_regrown w6 dq osq
                have HB7 := hide (HB.out.trans (b7.mono HB.out.size))
                clear hw'' dq osq b7
                clear r1 r2 r3 r4
                go_wp2_with fail
                go_roundw
                case rel => exact ⟨j + 1, by omega, by go_num, by show _ = _; rw [t1.out, t2.out, HT.out, HXY.out], HB7.out⟩
                case measure => simp [intOf]; omega
              | false =>
                have HNO : Hid (¬ aP = bP) := fun h => by
                  have := HZ.out.2 (by rw [← Hx.out, ← Hy.out, h])
                  cases this
                go_wp2_with fail
                refine wp_region_quiet_below (by kernel_rfl) (by kernel_rfl) ?_
                repeat (with_reducible (refine wpQuiet_step ?_); intro K hK; go_simp; (try rw [if_neg (by unfold undef; simp)]); first | (with_reducible (refine hK _ ?_); clear hK K) | (apply Exists.intro; refine ⟨fun _ => ?_, hK _ ?_⟩; (fail); clear hK K))
                with_reducible (refine wpQuiet_nil ?_)
                intro w7 hw'
                obtain ⟨⟨dq, osq⟩, hw''⟩ := hw'
                have b7 : Below w6.heap.size w6 w7 := by rw [hw'']; exact below_regrown w6 dq osq
                have HB7 := hide (HB.out.trans (b7.mono HB.out.size))
                clear hw'' dq osq b7
                clear r1 r2 r3 r4
                have HBE := hide (HBK.out.trans (HB7.out.mono HBK.out.size))
                go_wp2_with fail
                go_ret
                exact ⟨false, rfl, ⟨(fun h => by cases h), fun h => absurd h HNO.out⟩, HBE.out⟩
            · obtain rfl : j = acn := by omega
              have HCE : Hid (aP.cloud = bP.cloud) := by
                show _ = _
                have h := HT.out
                rw [List.take_of_length_le (by rw [HKA.out]; exact Nat.le_refl _), List.take_of_length_le (by rw [HKB.out]; exact Nat.le_refl _)] at h
                exact h
              have HBE := hide (HBK.out.trans (HB.out.mono HBK.out.size))
              go_wp2_with fail
              go_ret
              exact ⟨true, rfl, ⟨fun _ => by obtain ⟨v1, c1⟩ := aP; obtain ⟨v2, c2⟩ := bP; have e1 : v1 = v2 := HVE.out; have e2 : c1 = c2 := HCE.out; rw [e1, e2], fun _ => rfl⟩, HBE.out⟩
    · have d1 : ((avn : Int) != (bvn : Int)) = false := by simp [hv]
      have d2 : ((acn : Int) != (bcn : Int)) = true := by simp; omega
      have HNO : Hid (¬ aP = bP) := fun h => hc (by rw [← HKA.out, ← HKB.out, h])
      clear hv hc
      go_enter Try.func7, Try.ntmps7
      go_wp2_with fail
      go_ret
      exact ⟨false, rfl, ⟨(fun h => by cases h), fun h => absurd h HNO.out⟩, HBK.out⟩
  · have d1 : ((avn : Int) != (bvn : Int)) = true := by simp; omega
    have HNO : Hid (¬ aP = bP) := fun h => hv (by rw [← HLA.out, ← HLB.out, h])
    clear hv
    go_enter Try.func7, Try.ntmps7
    go_wp2_with fail
    go_ret
    exact ⟨false, rfl, ⟨(fun h => by cases h), fun h => absurd h HNO.out⟩, HBK.out⟩
end Go.Proofs.Ytiogmeaianogmaa
/- Regions that draw their order, with calls that answer pasts, literals and variables that are made: what holds at every moment. -/
namespace Go.Proofs.Ytiogmeaianogmaa
open Go.RowKit

/-- the past's lists don't lie in the block g -/
def PFar (p : Pv) (g : Nat) : Prop := (0 < p.vn → ∀ ad, p.vo = some ad → ad.block ≠ g) ∧ (0 < p.cn → ∀ ad, p.co = some ad → ad.block ≠ g)
theorem PFar.new {n g : Nat} {p : Pv} (h : PNew n p) (hg : g < n) : PFar p g := ⟨fun _ ad e => by have := h.1 ad e; omega, fun _ ad e => by have := h.2 ad e; omega⟩
theorem PFar.old {W : World} {p : Pv} (h : PSrc W p) {g : Nat} (hg : W.heap.size ≤ g) : PFar p g := by
  refine ⟨fun hn ad e he => ?_, fun hn ad e he => ?_⟩
  · have := World.block_lt_of_cell? _ _ (h.vec.2.2 ad e 0 hn)
    rw [block_add] at this
    omega
  · have := World.block_lt_of_cell? _ _ (h.cloud.cell ad e 0 hn).c0
    rw [block_add] at this
    omega
theorem PSrc.far {W W' : World} {p : Pv} (h : PSrc W p) {g : Nat} (hf : PFar p g) (hk : ∀ q, q ≠ g → W'.heap[q]? = W.heap[q]?) : PSrc W' p := by
  have ev : ∀ ad, p.vo = some ad → 0 < p.vn → ∀ m, W'.cell? (ad.add m) = W.cell? (ad.add m) := fun ad e hn m => by unfold World.cell?; rw [block_add, hk _ (hf.1 hn ad e)]
  have ec : ∀ ad, p.co = some ad → 0 < p.cn → ∀ m, W'.cell? (ad.add m) = W.cell? (ad.add m) := fun ad e hn m => by unfold World.cell?; rw [block_add, hk _ (hf.2 hn ad e)]
  refine ⟨⟨h.vec.1, h.vec.2.1, fun ad e t ht => by rw [ev ad e (by omega)]; exact h.vec.2.2 ad e t ht⟩, ⟨h.cloud.len, h.cloud.nil, fun ad e t ht => ?_, h.cloud.big⟩, h.big⟩
  have A := h.cloud.cell ad e t ht
  have e' := ec ad e (by omega)
  exact ⟨by rw [e']; exact A.c0, by have := A.c1; rw [add_add] at this ⊢; rw [e']; exact this, by have := A.c2; rw [add_add] at this ⊢; rw [e']; exact this⟩
theorem PV_inj {p q : Pv} (h : PV p = PV q) : PC p = PC q := by injection h
theorem PBox.same {w : World} {g : Nat} {p q : Pv} (h : PBox w g p) (e : PV q = PV p) : PBox w g q := by unfold PBox at h ⊢; rw [PV_inj e]; exact h
abbrev vat (vs : List Value) (i : Nat) : Value := vs.getD i undef
/-- Φ: what is known of an operation's value; late: while no store has been done alone; RL: calls that answer pasts; AL: variables (made, filled, by which value) -/
structure BI (n st : Nat) (wk : World) (Φ : Nat → Value → World → Prop) (late : List Nat) (RL : List (Nat × (Pst → Prop))) (AL : List (Nat × Nat × Nat)) (l : Array Bool) (W : World) (vs : List Value) : Prop where
  sz : l.size = n
  ln : vs.length = n
  b : Below wk.heap.size wk W
  h : ∀ i, i < n → l.getD i false = true → (i ∈ late → l.getD st false = false) → Φ i (vat vs i) W
  r : ∀ x, x ∈ RL → l.getD x.1 false = true → ∃ p, vat vs x.1 = PV p ∧ PSrc W p ∧ x.2 p.P ∧ ∀ y, y ∈ AL → l.getD y.1 false = true → ∀ g, vat vs y.1 = ptr g → PFar p g
  a : ∀ y, y ∈ AL → l.getD y.1 false = true → ∃ g, vat vs y.1 = ptr g ∧ wk.heap.size ≤ g ∧ g < W.heap.size ∧ (l.getD y.2.1 false = false → PBox W g pv0) ∧ (l.getD y.2.1 false = true → ∀ p, vat vs y.2.2 = PV p → PBox W g p)
  d : ∀ y z, y ∈ AL → z ∈ AL → y.1 ≠ z.1 → l.getD y.1 false = true → l.getD z.1 false = true → vat vs y.1 ≠ vat vs z.1
  c : ∀ y, y ∈ AL → l.getD y.2.1 false = true → l.getD y.1 false = true ∧ l.getD y.2.2 false = true ∧ l.getD st false = true
def Mono (Φ : Nat → Value → World → Prop) : Prop := ∀ i x W W', Φ i x W → Below W.heap.size W W' → Φ i x W'
section
variable {n st : Nat} {wk : World} {Φ : Nat → Value → World → Prop} {late : List Nat} {RL : List (Nat × (Pst → Prop))} {AL : List (Nat × Nat × Nat)} {l : Array Bool} {W W' : World} {vs : List Value}
theorem vat_same {i : Nat} {v : Value} (h : i < vs.length) : vat (vs.set i v) i = v := by simp [vat, List.getD, h]
theorem vat_other {i j : Nat} {v : Value} (h : i ≠ j) : vat (vs.set i v) j = vat vs j := by simp [vat, List.getD, h]
theorem BI.on (hm : Mono Φ) (T : BI n st wk Φ late RL AL l W vs) (hb : Below W.heap.size W W') : BI n st wk Φ late RL AL l W' vs := by
  refine ⟨T.sz, T.ln, T.b.trans (hb.mono T.b.size), fun i h1 h2 h3 => hm _ _ _ _ (T.h i h1 h2 h3) hb, fun x hx hl => ?_, fun y hy hl => ?_, T.d, T.c⟩
  · obtain ⟨p, e, S, q, f⟩ := T.r x hx hl; exact ⟨p, e, S.below hb, q, f⟩
  · obtain ⟨g, e, h1, h2, h3, h4⟩ := T.a y hy hl; exact ⟨g, e, h1, Nat.lt_of_lt_of_le h2 hb.size, fun q => (h3 q).below hb, fun q p e => (h4 q p e).below hb⟩
/-- an operation that is none of the others -/
theorem BI.plain (hm : Mono Φ) (T : BI n st wk Φ late RL AL l W vs) (hb : Below W.heap.size W W') (i : Nat) (hi : i < n) (hl : l.getD i false = false) (v : Value) (hΦ : Φ i v W') (h1 : ∀ x, x ∈ RL → x.1 ≠ i) (h2 : ∀ y, y ∈ AL → y.1 ≠ i ∧ y.2.1 ≠ i) (h3 : st ≠ i) : BI n st wk Φ late RL AL (l.setIfInBounds i true) W' (vs.set i v) := by
  have T := T.on hm hb
  have hi' : i < vs.length := by rw [T.ln]; exact hi
  have hil : i < l.size := by rw [T.sz]; exact hi
  have st' : (l.setIfInBounds i true).getD st false = l.getD st false := set_other (fun e => h3 e.symm)
  refine ⟨by simpa using T.sz, by simpa using T.ln, T.b, fun j hj hlj hlt => ?_, fun x hx hlx => ?_, fun y hy hly => ?_, fun y z hy hz hne hly hlz => ?_, fun y hy hls => ?_⟩
  · by_cases e : i = j
    · subst e; rw [vat_same hi']; exact hΦ
    · rw [vat_other e]; rw [set_other e] at hlj; rw [st'] at hlt; exact T.h j hj hlj hlt
  · have hx1 : i ≠ x.1 := fun e => h1 x hx e.symm
    rw [set_other hx1] at hlx
    rw [vat_other hx1]
    obtain ⟨p, e, S, q, f⟩ := T.r x hx hlx
    refine ⟨p, e, S, q, fun y hy hly => ?_⟩
    have hy1 : i ≠ y.1 := fun e => (h2 y hy).1 e.symm
    rw [set_other hy1] at hly
    rw [vat_other hy1]
    exact f y hy hly
  · have hy1 : i ≠ y.1 := fun e => (h2 y hy).1 e.symm
    have hy2 : i ≠ y.2.1 := fun e => (h2 y hy).2 e.symm
    rw [set_other hy1] at hly
    rw [vat_other hy1, set_other hy2]
    obtain ⟨g, e, g1, g2, g3, g4⟩ := T.a y hy hly
    refine ⟨g, e, g1, g2, g3, fun hs => ?_⟩
    have hy3 : i ≠ y.2.2 := fun e => by
      have := (T.c y hy hs).2.1
      rw [← e, hl] at this
      cases this
    rw [vat_other hy3]
    exact g4 hs
  · have hy1 : i ≠ y.1 := fun e => (h2 y hy).1 e.symm
    have hz1 : i ≠ z.1 := fun e => (h2 z hz).1 e.symm
    rw [set_other hy1] at hly
    rw [set_other hz1] at hlz
    rw [vat_other hy1, vat_other hz1]
    exact T.d y z hy hz hne hly hlz
  · have hy1 : i ≠ y.1 := fun e => (h2 y hy).1 e.symm
    have hy2 : i ≠ y.2.1 := fun e => (h2 y hy).2 e.symm
    rw [set_other hy2] at hls
    have hc := T.c y hy hls
    rw [set_other hy1, st']
    refine ⟨hc.1, ?_, hc.2.2⟩
    by_cases e : i = y.2.2
    · rw [← e]; exact set_same hil
    · rw [set_other e]; exact hc.2.1
/-- a call that answers a past -/
theorem BI.call (hm : Mono Φ) (T : BI n st wk Φ late RL AL l W vs) (hb : Below W.heap.size W W') (i : Nat) (S : Pst → Prop) (hi : i < n) (hl : l.getD i false = false) (_ : (i, S) ∈ RL) (hu : ∀ x, x ∈ RL → x.1 = i → x.2 = S) (p : Pv) (hS : PSrc W' p) (hN : PNew W.heap.size p) (hp : S p.P) (hΦ : ∀ v U, Φ i v U) (h2 : ∀ y, y ∈ AL → y.1 ≠ i ∧ y.2.1 ≠ i) (h3 : st ≠ i) : BI n st wk Φ late RL AL (l.setIfInBounds i true) W' (vs.set i (PV p)) := by
  have T' := T.on hm hb
  have hi' : i < vs.length := by rw [T.ln]; exact hi
  have hil : i < l.size := by rw [T.sz]; exact hi
  have st' : (l.setIfInBounds i true).getD st false = l.getD st false := set_other (fun e => h3 e.symm)
  refine ⟨by simpa using T.sz, by simpa using T.ln, T'.b, fun j hj hlj hlt => ?_, fun x hx hlx => ?_, fun y hy hly => ?_, fun y z hy hz hne hly hlz => ?_, fun y hy hls => ?_⟩
  · by_cases e : i = j
    · subst e; exact hΦ _ _
    · rw [vat_other e]; rw [set_other e] at hlj; rw [st'] at hlt; exact T'.h j hj hlj hlt
  · by_cases e : i = x.1
    · have e2 := hu x hx e.symm
      refine ⟨p, by rw [← e, vat_same hi'], hS, by rw [e2]; exact hp, fun y hy hly g eg => ?_⟩
      have hy1 : i ≠ y.1 := fun e => (h2 y hy).1 e.symm
      rw [set_other hy1] at hly
      rw [vat_other hy1] at eg
      obtain ⟨g', e', _, g2, _⟩ := T.a y hy hly
      obtain rfl := ptr_inj (eg.symm.trans e')
      exact PFar.new hN g2
    · rw [set_other e] at hlx
      rw [vat_other e]
      obtain ⟨p', e', S', q', f⟩ := T'.r x hx hlx
      refine ⟨p', e', S', q', fun y hy hly => ?_⟩
      have hy1 : i ≠ y.1 := fun e => (h2 y hy).1 e.symm
      rw [set_other hy1] at hly
      rw [vat_other hy1]
      exact f y hy hly
  · have hy1 : i ≠ y.1 := fun e => (h2 y hy).1 e.symm
    have hy2 : i ≠ y.2.1 := fun e => (h2 y hy).2 e.symm
    rw [set_other hy1] at hly
    rw [vat_other hy1, set_other hy2]
    obtain ⟨g, e, g1, g2, g3, g4⟩ := T'.a y hy hly
    refine ⟨g, e, g1, g2, g3, fun hs => ?_⟩
    have hy3 : i ≠ y.2.2 := fun e => by
      have := (T.c y hy hs).2.1
      rw [← e, hl] at this
      cases this
    rw [vat_other hy3]
    exact g4 hs
  · have hy1 : i ≠ y.1 := fun e => (h2 y hy).1 e.symm
    have hz1 : i ≠ z.1 := fun e => (h2 z hz).1 e.symm
    rw [set_other hy1] at hly
    rw [set_other hz1] at hlz
    rw [vat_other hy1, vat_other hz1]
    exact T.d y z hy hz hne hly hlz
  · have hy1 : i ≠ y.1 := fun e => (h2 y hy).1 e.symm
    have hy2 : i ≠ y.2.1 := fun e => (h2 y hy).2 e.symm
    rw [set_other hy2] at hls
    have hc := T.c y hy hls
    rw [set_other hy1, st']
    refine ⟨hc.1, ?_, hc.2.2⟩
    by_cases e : i = y.2.2
    · rw [← e]; exact set_same hil
    · rw [set_other e]; exact hc.2.1
/-- a variable is made -/
theorem BI.make (hm : Mono Φ) (T : BI n st wk Φ late RL AL l W vs) (i s c : Nat) (hi : i < n) (hl : l.getD i false = false) (_ : (i, s, c) ∈ AL) (hu : ∀ y, y ∈ AL → y.1 = i → y = (i, s, c)) (h1 : ∀ x, x ∈ RL → x.1 ≠ i) (h2 : ∀ y, y ∈ AL → y.2.1 ≠ i ∧ y.2.2 ≠ i) (hΦ : ∀ v U, Φ i v U) (h3 : st ≠ i) : BI n st wk Φ late RL AL (l.setIfInBounds i true) (W.alloc (.cells (PC pv0) 25)) (vs.set i (ptr W.heap.size)) := by
  have T' := T.on hm (below_new W (.cells (PC pv0) 25))
  have hi' : i < vs.length := by rw [T.ln]; exact hi
  have hil : i < l.size := by rw [T.sz]; exact hi
  have st' : (l.setIfInBounds i true).getD st false = l.getD st false := set_other (fun e => h3 e.symm)
  refine ⟨by simpa using T.sz, by simpa using T.ln, T'.b, fun j hj hlj hlt => ?_, fun x hx hlx => ?_, fun y hy hly => ?_, fun y z hy hz hne hly hlz => ?_, fun y hy hls => ?_⟩
  · by_cases e : i = j
    · subst e; exact hΦ _ _
    · rw [vat_other e]; rw [set_other e] at hlj; rw [st'] at hlt; exact T'.h j hj hlj hlt
  · have hx1 : i ≠ x.1 := fun e => h1 x hx e.symm
    rw [set_other hx1] at hlx
    rw [vat_other hx1]
    obtain ⟨p, e, S, q, f⟩ := T.r x hx hlx
    refine ⟨p, e, S.below (below_new _ _), q, fun y hy hly g eg => ?_⟩
    by_cases e1 : i = y.1
    · rw [← e1, vat_same hi'] at eg
      obtain rfl := ptr_inj eg
      exact PFar.old S (Nat.le_refl _)
    · rw [set_other e1] at hly
      rw [vat_other e1] at eg
      exact f y hy hly g eg
  · by_cases e1 : i = y.1
    · obtain rfl := hu y hy e1.symm
      refine ⟨W.heap.size, by rw [vat_same hi'], T.b.size, by simp, fun _ => pbox_new W pv0, fun hs => ?_⟩
      rw [set_other (fun e => (h2 _ hy).1 e.symm)] at hs
      have := (T.c _ hy hs).1
      rw [hl] at this
      cases this
    · have hy2 : i ≠ y.2.1 := fun e => (h2 y hy).1 e.symm
      rw [set_other e1] at hly
      rw [vat_other e1, set_other hy2, vat_other (fun e => (h2 y hy).2 e.symm)]
      exact T'.a y hy hly
  · by_cases e1 : i = y.1
    · have e2 : i ≠ z.1 := fun e => hne (by rw [← e1, ← e])
      rw [set_other e2] at hlz
      rw [← e1, vat_same hi', vat_other e2]
      obtain ⟨g, e, _, g2, _⟩ := T.a z hz hlz
      intro h
      have := ptr_inj (h.trans e)
      omega
    · rw [set_other e1] at hly
      rw [vat_other e1]
      by_cases e2 : i = z.1
      · rw [← e2, vat_same hi']
        obtain ⟨g, e, _, g2, _⟩ := T.a y hy hly
        intro h
        have := ptr_inj (h.symm.trans e)
        omega
      · rw [set_other e2] at hlz
        rw [vat_other e2]
        exact T.d y z hy hz hne hly hlz
  · have hy2 : i ≠ y.2.1 := fun e => (h2 y hy).1 e.symm
    rw [set_other hy2] at hls
    have hc := T.c y hy hls
    rw [st', set_other (fun e => (h2 y hy).2 e.symm)]
    refine ⟨?_, hc.2⟩
    by_cases e : i = y.1
    · rw [← e]; exact set_same hil
    · rw [set_other e]; exact hc.1
/-- a variable is filled; what is said of the others is of no memory -/
theorem BI.fill (T : BI n st wk Φ late RL AL l W vs) (i s c : Nat) (p : Pv) (hs : s < n) (hl : l.getD s false = false) (hA : (i, s, c) ∈ AL) (hu : ∀ y, y ∈ AL → y.2.1 = s → y = (i, s, c)) (hk : ∀ y, y ∈ AL → y.1 = i → y = (i, s, c)) (di : l.getD i false = true) (dc : l.getD c false = true) (dst : s = st ∨ l.getD st false = true) (hp : vat vs c = PV p) (h1 : ∀ x, x ∈ RL → x.1 ≠ s) (h2 : ∀ y, y ∈ AL → y.1 ≠ s ∧ y.2.2 ≠ s)
    (hm : ∀ j x U U', j ∉ late → Φ j x U → Φ j x U') (hΦ : ∀ v U, Φ s v U) (v : Value) :
    ∃ g, vat vs i = ptr g ∧ PBox W g pv0 ∧ BI n st wk Φ late RL AL (l.setIfInBounds s true) (W.setRow g (PC p)) (vs.set s v) := by
  obtain ⟨g, eg, g1, g2, g3, _⟩ := T.a _ hA di
  have hi' : s < vs.length := by rw [T.ln]; exact hs
  have hsl : s < l.size := by rw [T.sz]; exact hs
  have hst : (l.setIfInBounds s true).getD st false = true := by
    by_cases e : s = st
    · rw [← e]; exact set_same hsl
    · rw [set_other e]; exact dst.resolve_left e
  have hz : (W.setRow g (PC p)).heap.size = W.heap.size := by simp [World.setRow]
  have hother : ∀ q, q ≠ g → (W.setRow g (PC p)).heap[q]? = W.heap[q]? := fun q hq => setRow_other _ _ _ _ hq
  refine ⟨g, eg, g3 hl, by simpa using T.sz, by simpa using T.ln, below_setRow T.b g1, fun j hj hlj hlt => ?_, fun x hx hlx => ?_, fun y hy hly => ?_, fun y z hy hz' hne hly hlz => ?_, fun y hy hls => ?_⟩
  · by_cases e : s = j
    · subst e; exact hΦ _ _
    · have hjl : j ∉ late := fun hm' => by have := hlt hm'; rw [hst] at this; cases this
      rw [vat_other e]
      rw [set_other e] at hlj
      exact hm j _ W _ hjl (T.h j hj hlj (fun hm' => absurd hm' hjl))
  · have hx1 : s ≠ x.1 := fun e => h1 x hx e.symm
    rw [set_other hx1] at hlx
    rw [vat_other hx1]
    obtain ⟨p', e', S', q', f⟩ := T.r x hx hlx
    refine ⟨p', e', S'.far (f _ hA di g eg) hother, q', fun y hy hly => ?_⟩
    have hy1 : s ≠ y.1 := fun e => (h2 y hy).1 e.symm
    rw [set_other hy1] at hly
    rw [vat_other hy1]
    exact f y hy hly
  · have hy1 : s ≠ y.1 := fun e => (h2 y hy).1 e.symm
    rw [set_other hy1] at hly
    rw [vat_other hy1, vat_other (fun e => (h2 y hy).2 e.symm)]
    by_cases e : y.1 = i
    · obtain rfl := hk y hy e
      refine ⟨g, eg, g1, by rw [hz]; exact g2, fun h => ?_, fun _ q hq => ?_⟩
      · rw [set_same hsl] at h; cases h
      · have : PBox (W.setRow g (PC p)) g p := setRow_heap _ _ _ _ _ _ (g3 hl)
        exact this.same (hq.symm.trans hp)
    · obtain ⟨g', eg', k1, k2, k3, k4⟩ := T.a y hy hly
      have hne : g' ≠ g := fun h => T.d y _ hy hA (by exact e) hly di (by rw [eg', h]; exact eg.symm)
      have hy2 : s ≠ y.2.1 := fun h => by have := hu y hy h.symm; rw [this] at e; exact e rfl
      rw [set_other hy2]
      exact ⟨g', eg', k1, by rw [hz]; exact k2, fun q => (hother _ hne).trans (k3 q), fun q p' e' => (hother _ hne).trans (k4 q p' e')⟩
  · have hy1 : s ≠ y.1 := fun e => (h2 y hy).1 e.symm
    have hz1 : s ≠ z.1 := fun e => (h2 z hz').1 e.symm
    rw [set_other hy1] at hly
    rw [set_other hz1] at hlz
    rw [vat_other hy1, vat_other hz1]
    exact T.d y z hy hz' hne hly hlz
  · have hy1 : s ≠ y.1 := fun e => (h2 y hy).1 e.symm
    have hy3 : s ≠ y.2.2 := fun e => (h2 y hy).2 e.symm
    rw [set_other hy1, set_other hy3]
    by_cases e : s = y.2.1
    · obtain rfl := hu y hy e.symm
      exact ⟨di, dc, hst⟩
    · rw [set_other e] at hls
      have := T.c y hy hls
      exact ⟨this.1, this.2.1, hst⟩
theorem BI.start (n st : Nat) (wk : World) (Φ : Nat → Value → World → Prop) (late : List Nat) (RL : List (Nat × (Pst → Prop))) (AL : List (Nat × Nat × Nat)) (vs : List Value) (h : vs.length = n) : BI n st wk Φ late RL AL (Array.replicate n false) wk.drew vs := by
  refine ⟨by simp, h, below_drew1 wk, ?_, ?_, ?_, ?_, ?_⟩ <;> simp only [rep_false]
  · intro i _ h; cases h
  · intro x _ h; cases h
  · intro y _ h; cases h
  · intro y z _ _ _ h; cases h
  · intro y _ h; cases h
end
end Go.Proofs.Ytiogmeaianogmaa
/- PastLattice: the law's walk. -/
namespace Go.Proofs.Ytiogmeaianogmaa
open Go.RowKit

def CaseC (a b c : Pv) (dv : Value) (rp ms : Int) : Array Value := #[.slice a.vo a.vn a.vc, .slice a.co a.cn a.cc, .slice b.vo b.vn b.vc, .slice b.co b.cn b.cc, .slice c.vo c.vn c.vc, .slice c.co c.cn c.cc, dv, .int .i64 rp, .int .i64 ms]
abbrev CaseV (a b c : Pv) (dv : Value) (rp ms : Int) : Value := .agg (CaseC a b c dv rp ms)
theorem cells_CaseV (a b c : Pv) (dv : Value) (rp ms : Int) : (CaseV a b c dv rp ms).cells = CaseC a b c dv rp ms := by simp [Value.cells]
theorem case_at (w : World) (a b c : Pv) (dv : Value) (rp ms : Int) : PAt (w.alloc (.cells (CaseC a b c dv rp ms) 28)) ⟨w.heap.size, 0, none⟩ a ∧ PAt (w.alloc (.cells (CaseC a b c dv rp ms) 28)) ⟨w.heap.size, 2, none⟩ b ∧ PAt (w.alloc (.cells (CaseC a b c dv rp ms) 28)) ⟨w.heap.size, 4, none⟩ c := by
  refine ⟨⟨?_, ?_⟩, ⟨?_, ?_⟩, ⟨?_, ?_⟩⟩ <;> simp [Addr.add, CaseC]
theorem part_iff {A B P Q : Prop} (h : P ↔ A ∧ B) (h' : Q ↔ A ∧ ¬ B) : P ∨ Q ↔ A := by
  rw [h, h']
  by_cases hb : B <;> simp [hb]
theorem four1 {A B J M : Prop} (hj : J ↔ A ∨ B) (hm : M ↔ A ∧ B) : (J ∨ M ↔ A ∨ B) ∧ (J ∧ M ↔ A ∧ B) := by
  rw [hj, hm]
  by_cases ha : A <;> by_cases hb : B <;> simp [ha, hb]
theorem four2 {A B D M : Prop} (hd : D ↔ A ∧ ¬ B) (hm : M ↔ A ∧ B) : (D ∨ M ↔ A ∨ False) ∧ (D ∧ M ↔ A ∧ False) := by
  rw [hd, hm]
  by_cases ha : A <;> by_cases hb : B <;> simp [ha, hb]
def BIff (x : Bool) (P : Prop) : Prop := x = true ↔ P
theorem BIff.out {x : Bool} {P : Prop} (h : BIff x P) : x = true ↔ P := h
theorem eqv_iff {A B : Nat → List Rn} {x y : Bool} (hx : x = true ↔ ∀ r, r < 16 → ∀ n, mem (A r) n → mem (B r) n) (hy : y = true ↔ ∀ r, r < 16 → ∀ n, mem (B r) n → mem (A r) n) : Eqv (fun r n => mem (A r) n) (fun r n => mem (B r) n) ↔ (x && y) = true := by
  rw [Bool.and_eq_true, hx, hy]
  exact ⟨fun h => ⟨fun r hr n => (h r hr n).1, fun r hr n => (h r hr n).2⟩, fun h r hr n => ⟨h.1 r hr n, h.2 r hr n⟩⟩
end Go.Proofs.Ytiogmeaianogmaa
/- fixed: its contract. -/
namespace Go.Proofs.Ytiogmeaianogmaa
open Go.RowKit
attribute [local go_sem ↓] ldP_eq stP_eq
attribute [local go_sem] zero_PC cells_PV fold_PC PC_size

def fxA : Pst := ⟨[2, 0, 0], [⟨0, 3, 4⟩, ⟨1, 2, 2⟩]⟩
def fxB : Pst := ⟨[4], [⟨1, 2, 2⟩]⟩
def fxN : Nat → List Rn := fun r => if r = 0 then [⟨1, 4⟩] else if r = 1 then [⟨2, 2⟩] else []
theorem fxN_form (r : Nat) : form 1 (fxN r) := by
  unfold fxN
  split
  · exact ⟨by decide, by decide, by decide, trivial⟩
  · split
    · exact ⟨by decide, by decide, by decide, trivial⟩
    · trivial
theorem fxA_runs (r : Nat) (hr : r < 16) : runsAt fxA r = if r = 0 then [⟨1, 2⟩, ⟨3, 4⟩] else if r = 1 then [⟨2, 2⟩] else [] := by
  have : r = 0 ∨ r = 1 ∨ r = 2 ∨ r = 3 ∨ r = 4 ∨ r = 5 ∨ r = 6 ∨ r = 7 ∨ r = 8 ∨ r = 9 ∨ r = 10 ∨ r = 11 ∨ r = 12 ∨ r = 13 ∨ r = 14 ∨ r = 15 := by omega
  rcases this with rfl | rfl | rfl | rfl | rfl | rfl | rfl | rfl | rfl | rfl | rfl | rfl | rfl | rfl | rfl | rfl <;> rfl
theorem fxB_runs (r : Nat) (hr : r < 16) : runsAt fxB r = if r = 0 then [⟨1, 4⟩] else if r = 1 then [⟨2, 2⟩] else [] := by
  have : r = 0 ∨ r = 1 ∨ r = 2 ∨ r = 3 ∨ r = 4 ∨ r = 5 ∨ r = 6 ∨ r = 7 ∨ r = 8 ∨ r = 9 ∨ r = 10 ∨ r = 11 ∨ r = 12 ∨ r = 13 ∨ r = 14 ∨ r = 15 := by omega
  rcases this with rfl | rfl | rfl | rfl | rfl | rfl | rfl | rfl | rfl | rfl | rfl | rfl | rfl | rfl | rfl | rfl <;> rfl
theorem fxA_canon : CanonOf (runsAt fxA) fxB := by
  refine ⟨fxN, fun r hr => ⟨fxN_form r, fun n => ?_⟩, by rfl⟩
  rw [fxA_runs r hr]
  unfold fxN
  split
  · rw [mem_one, mem_cons, mem_one]; simp only; omega
  · split <;> exact Iff.rfl
theorem fxB_size : SzP (mP fxB) 5 := ⟨fxN, fun r hr => ⟨fxN_form r, fun n => by unfold mP; rw [fxB_runs r hr]; exact Iff.rfl⟩, by decide⟩
theorem isDot_true (r m : Int) (w : World) (hr : V.isR r = true) (h1 : 1 ≤ m) (h2 : m ≤ 1000000000) : Calls Try.prog 54 #[.agg #[.int .i64 r, .int .i64 m]] w fun e w' => e = .returned (.bool true) ∧ Below w.heap.size w w' := by
  have HB := hide (below_new w (.cells #[.int .i64 r, .int .i64 m] 40))
  have HR := hide hr
  clear hr
  go_enter Try.func54, Try.ntmps54
  go_wp2_with (go_at_call 51; refine (isRepP_any r _).mono ?_; rintro e w' ⟨rfl, rfl⟩; rw [HR.out])
  go_ret
  exact ⟨rfl, HB.out⟩
set_option maxRecDepth 100000 in
theorem hasVec_true (p : Pv) (r m : Int) (w : World) (hS : PSrc w p) (hr : V.isR r = true) (h1 : 1 ≤ m) (h2 : m ≤ 1000000000) (hh : V.hasD p.P.vec r m = true) : Calls Try.prog 24 #[PV p, .agg #[.int .i64 r, .int .i64 m]] w fun e w' => e = .returned (.bool true) ∧ Below w.heap.size w w' := by
  have b1 := below_new w (.cells (PC p) 25)
  have b2 := below_new (w.alloc (.cells (PC p) 25)) (.cells #[.int .i64 r, .int .i64 m] 40)
  obtain ⟨n0, n1⟩ := ((pbox_new w p).below b2).nums
  have HBK := hide (b1.trans (b2.mono b1.size))
  have HSV := hide (hS.below HBK.out).vec
  have HD := hide (And.intro hr (And.intro h1 (And.intro h2 hh)))
  have k0 : ((w.alloc (.cells (PC p) 25)).alloc (.cells #[.int .i64 r, .int .i64 m] 40)).cell? ⟨w.heap.size + 1, 0, none⟩ = some (.int .i64 r) := by
    have := World.cell?_alloc_new (w.alloc (.cells (PC p) 25)) #[.int .i64 r, .int .i64 m] 40 0
    rw [World.size_alloc] at this
    exact this
  have k1 : ((w.alloc (.cells (PC p) 25)).alloc (.cells #[.int .i64 r, .int .i64 m] 40)).cell? ⟨w.heap.size + 1, 1, none⟩ = some (.int .i64 m) := by
    have := World.cell?_alloc_new (w.alloc (.cells (PC p) 25)) #[.int .i64 r, .int .i64 m] 40 1
    rw [World.size_alloc] at this
    exact this
  clear hS hr h1 h2 hh b1 b2
  obtain ⟨wk, hwk⟩ : ∃ wk, (w.alloc (.cells (PC p) 25)).alloc (.cells #[.int .i64 r, .int .i64 m] 40) = wk := ⟨_, rfl⟩
  rw [hwk] at n0 n1 HBK HSV k0 k1
  go_enter Try.func24, Try.ntmps24
  go_wp2_with fail
  clear hwk
  refine (isDot_true r m _ HD.out.1 HD.out.2.1 HD.out.2.2.1).mono ?_
  rintro e w1 ⟨rfl, b3⟩
  have n0' := (b3.cell (World.block_lt_of_cell? _ _ n0)).trans n0
  have k0' := (b3.cell (World.block_lt_of_cell? _ _ k0)).trans k0
  have k1' := (b3.cell (World.block_lt_of_cell? _ _ k1)).trans k1
  have HSV1 := hide (HSV.out.below b3)
  have HB1 := hide (HBK.out.trans (b3.mono HBK.out.size))
  clear n0 n1 k0 k1 b3
  go_wp2_with fail
  refine (V.has_any _ _ _ p.P.vec r m _ HSV1.out).mono ?_
  rintro e w2 ⟨rfl, b4⟩
  rw [HD.out.2.2.2]
  have HB2 := hide (HB1.out.trans (b4.mono HB1.out.size))
  clear b4 n0' k0' k1'
  go_wp2_with fail
  go_ret
  exact ⟨rfl, HB2.out⟩
end Go.Proofs.Ytiogmeaianogmaa
/- fixed: the walk. -/
namespace Go.Proofs.Ytiogmeaianogmaa
open Go.RowKit
attribute [local go_sem ↓] ldP_eq stP_eq
attribute [local go_sem] zero_PC cells_PV fold_PC PC_size zero_SC build_SC cells_SV fold_SC SC_size

theorem build_PC' (vo : Option Addr) (vn vc : Nat) (co : Option Addr) (cn cc : Nat) : ((PC pv0).setIfInBounds 0 (.slice vo vn vc)).setIfInBounds 1 (.slice co cn cc) = #[.slice vo vn vc, .slice co cn cc] := rfl
attribute [local go_sem] build_PC'
theorem vlit3 (w : World) (x y z : Int) (C : Array Value) (hC : C = #[.int .i64 x, .int .i64 y, .int .i64 z]) (T : TypeId) : V.Src (w.alloc (.cells C T)) (some ⟨w.heap.size, 0, none⟩) 3 3 [x, y, z] := by
  subst hC
  refine ⟨rfl, fun h => (by cases h), fun ad h t ht => ?_⟩
  obtain rfl := Option.some.inj h
  rw [Addr.add_lit, Nat.zero_add, World.cell?_alloc_new]
  have : t = 0 ∨ t = 1 ∨ t = 2 := by omega
  rcases this with rfl | rfl | rfl <;> rfl
theorem vlit1 (w : World) (x : Int) (C : Array Value) (hC : C = #[.int .i64 x]) (T : TypeId) : V.Src (w.alloc (.cells C T)) (some ⟨w.heap.size, 0, none⟩) 1 1 [x] := by
  subst hC
  refine ⟨rfl, fun h => (by cases h), fun ad h t ht => ?_⟩
  obtain rfl := Option.some.inj h
  rw [Addr.add_lit, Nat.zero_add, World.cell?_alloc_new]
  obtain rfl : t = 0 := by omega
  rfl
def fxP (g : Nat) : Pv := ⟨some ⟨g, 0, none⟩, 3, 3, some ⟨g + 1, 0, none⟩, 2, 2, fxA⟩
def fxQ (g : Nat) : Pv := ⟨some ⟨g, 0, none⟩, 1, 1, some ⟨g + 1, 0, none⟩, 1, 1, fxB⟩
theorem fxP_src (w : World) (C D : Array Value) (hC : C = #[.int .i64 2, .int .i64 0, .int .i64 0]) (hD : D = (scs [⟨0, 3, 4⟩, ⟨1, 2, 2⟩]).toArray) (T U : TypeId) : PSrc ((w.alloc (.cells C T)).alloc (.cells D U)) (fxP w.heap.size) := by
  have h := lit_ssrc (w.alloc (.cells C T)) [⟨0, 3, 4⟩, ⟨1, 2, 2⟩] D hD U 2 rfl (by omega)
  rw [World.size_alloc] at h
  exact ⟨(vlit3 w 2 0 0 C hC T).below (below_new _ _), h, by simp [fxP]⟩
theorem fxQ_src (w : World) (C D : Array Value) (hC : C = #[.int .i64 4]) (hD : D = (scs [⟨1, 2, 2⟩]).toArray) (T U : TypeId) : PSrc ((w.alloc (.cells C T)).alloc (.cells D U)) (fxQ w.heap.size) := by
  have h := lit_ssrc (w.alloc (.cells C T)) [⟨1, 2, 2⟩] D hD U 1 rfl (by omega)
  rw [World.size_alloc] at h
  exact ⟨(vlit1 w 4 C hC T).below (below_new _ _), h, by simp [fxQ]⟩
set_option maxRecDepth 100000 in
set_option maxHeartbeats 1000000 in
theorem fixed_true (w : World) : Calls Try.prog 6 #[] w fun e w' => e = .returned (.bool true) ∧ Below w.heap.size w w' := by
  go_enter Try.func6, Try.ntmps6
  go_wp2_with fail
  have b0 := below_new w (.cells (SC ⟨2, 0, 0⟩) 3)
  refine (pastNorm_any (fxP w.heap.size) _ (fxP_src w _ _ rfl rfl 3 50)).mono ?_
  rintro e w1 ⟨p, rfl, S1, _, b1, c1⟩
  have hB1 : Below w.heap.size w w1 := b0.trans (((below_new _ _).trans (b1.mono (below_new _ _).size)).mono b0.size)
  have he : p.P = fxB := CanonOf.unique c1 fxA_canon (fun _ _ _ => Iff.rfl)
  obtain ⟨w2, hst, PB, b2, z2⟩ := madeP w1 p w1.heap.size rfl
  have HE := hide he
  have HS2 := hide (S1.below b2)
  have HB2 := hide (hB1.trans (b2.mono hB1.size))
  have l1 := run_ldP PB.at
  have HPB := hide PB
  clear S1 b1 c1 b0 hB1 he PB b2 z2
  go_wp2_with fail
  have b3 : Below w2.heap.size w2 ((w2.alloc (.cells #[.int .i64 4] 3)).alloc (.cells (Array.foldl (fun cs x => cs.setIfInBounds x.snd x.fst) #[(SC sn0)[0]!, (SC sn0)[1]!, (SC sn0)[2]!] (SC ⟨1, 2, 2⟩).zipIdx 0 3) 50)) := (below_new w2 _).trans ((below_new _ _).mono (below_new _ _).size)
  refine (samePast_any p (fxQ w2.heap.size) _ (HS2.out.below b3) (fxQ_src w2 _ _ rfl rfl 3 50)).mono ?_
  rintro e w4 ⟨x, rfl, hx, b4⟩
  obtain rfl : x = true := hx.2 HE.out
  have b5 := b3.trans (b4.mono b3.size)
  have HS4 := hide (HS2.out.below b5)
  have HB4 := hide (HB2.out.trans (b5.mono HB2.out.size))
  have HPB4 := hide (HPB.out.below b5)
  have l2 := run_ldP HPB4.out.at
  clear l1 hst HPB HS2 b3 b4 b5 hx
  go_wp2_with fail
  refine (hasVec_true p 0 4 _ HS4.out (by decide) (by decide) (by decide) (by rw [HE.out]; decide)).mono ?_
  rintro e w5 ⟨rfl, b6⟩
  have HS5 := hide (HS4.out.below b6)
  have HB5 := hide (HB4.out.trans (b6.mono HB4.out.size))
  have l3 := run_ldP (HPB4.out.below b6).at
  clear l2 HPB4 HS4 b6
  go_wp2_with fail
  refine (pastSize_any p _ HS5.out).mono ?_
  rintro e w6 ⟨z, rfl, hz, b7⟩
  obtain rfl : 5 = z := by
    have h := szP_of hz
    rw [HE.out] at h
    exact (h.unique fxB_size (fun _ _ _ => Iff.rfl)).symm
  have HB6 := hide (HB5.out.trans (b7.mono HB5.out.size))
  clear l3 HS5 b7 hz
  go_wp2_with fail
  go_ret
  exact ⟨rfl, HB6.out⟩
end Go.Proofs.Ytiogmeaianogmaa
