/- PastGrows: the law's walk. -/
import Derived.Test.YtlnhafjpmkopgaaPPu
import Derived.Test.YtlnhafjpmkopgaaPNx
import Derived.Test.YtlnhafjpmkopgaaPIs
import Derived.Test.YtlnhafjpmkopgaaPNo
import Derived.Test.YtlnhafjpmkopgaaPFy
import Derived.Laws.StructEq
namespace Go.Proofs.Ytlnhafjpmkopgaa
open Go.RowKit
attribute [local go_sem ↓] ldP_eq stP_eq ldD_eq stD_eq
attribute [local go_sem] zero_PC cells_PV fold_PC PC_size fold_PC1 cells_CasV cells_RV RC_size zero_RC fold_RC build_D

/-- no span of the cloud is the replica's -/
def NoR (P : Pst) (y : Nat) : Prop := ∀ c, c ∈ P.cloud → ¬ c.rep = (y : Int)
theorem noR_iff {P : Pst} {y : Nat} : NoR P y ↔ cloudPart P.cloud y = [] := by
  unfold NoR cloudPart
  constructor
  · intro h
    have : P.cloud.filter (fun c => decide (c.rep = (y : Int))) = [] := List.filter_eq_nil_iff.2 (fun c hc => by simpa using h c hc)
    rw [this]; rfl
  · intro h c hc e
    have : c ∈ P.cloud.filter (fun c => decide (c.rep = (y : Int))) := List.mem_filter.2 ⟨hc, decide_eq_true e⟩
    rw [List.map_eq_nil_iff.1 h] at this
    cases this
/-- the replica's dots, where none lies in the cloud -/
theorem noR_mem {P : Pst} {y : Nat} (h : NoR P y) (n : Int) : mP P y n ↔ 1 ≤ n ∧ n ≤ V.at' P.vec y := by
  have hb := V.at'_bd P.vec y
  unfold mP runsAt
  rw [noR_iff.1 h, List.append_nil]
  unfold vecPart
  by_cases h0 : 0 < V.at' P.vec y
  · rw [if_pos h0, mem_one]; simp only; omega
  · rw [if_neg h0]
    exact ⟨fun g => absurd g (mem_nil n), fun g => by omega⟩
theorem noR_last {P : Pst} {y : Nat} (hy : y < 16) (h : NoR P y) : LastOf P (y : Int) (V.at' P.vec y) := by
  have hb := V.at'_bd P.vec y
  left
  refine ⟨isR_nat hy, ?_⟩
  rw [Int.toNat_natCast]
  by_cases h0 : 0 < V.at' P.vec y
  · exact Or.inr ⟨(noR_mem h _).2 (by omega), fun n hn => ((noR_mem h n).1 hn).2⟩
  · exact Or.inl ⟨by omega, fun n hn => by have := (noR_mem h n).1 hn; omega⟩
theorem noR_next {P P' : Pst} {y : Nat} (hy : y < 16) (h : NoR P y) (hk : V.at' P.vec y < 1000000000) (hP : IsP (mOr (mP P) (fun r n => r = y ∧ n = V.at' P.vec y + 1)) P') : NoR P' y := by
  have hb := V.at'_bd P.vec y
  obtain ⟨C, ⟨N, hN, rfl⟩, hm⟩ := hP
  have e : N y = [⟨1, V.at' P.vec y + 1⟩] := by
    refine form_unique (Int.le_refl _) (hN y hy).1 ⟨Int.le_refl _, by simp only; omega, by simp only; omega, trivial⟩ (fun n => ?_)
    rw [(hN y hy).2 n, hm y hy n, mem_one]
    unfold mOr
    simp only [noR_mem h n, true_and]
    omega
  rw [noR_iff, canonP_cloud, cloudPart_N, if_pos hy, e]
  rfl
theorem sumZ_at (y : Nat) (X : List Rn) : ∀ k, sumZ (fun r => if r = y then X else []) k = if y < k then sz X else 0
  | 0 => by simp [sumZ]
  | k + 1 => by
    rw [sumZ, sumZ_at y X k]
    by_cases h : k = y
    · subst h; simp
    · by_cases h' : y < k
      · simp [h, h', show y < k + 1 by omega, sz]
      · simp [h, h', show ¬ y < k + 1 by omega, sz]
theorem szP_dot {y : Nat} (hy : y < 16) {num : Int} (h1 : 1 ≤ num) (h9 : num ≤ 1000000000) : SzP (fun r n => r = y ∧ n = num) 1 := by
  refine ⟨fun r => if r = y then [⟨num, num⟩] else [], fun r hr => ?_, ?_⟩
  · by_cases e : r = y
    · simp only [if_pos e]
      refine ⟨⟨h1, Int.le_refl _, h9, trivial⟩, fun n => ?_⟩
      rw [mem_one]
      simp only
      constructor
      · intro g; exact ⟨e, by omega⟩
      · intro g; omega
    · simp only [if_neg e]
      exact ⟨trivial, fun n => ⟨fun g => absurd g (mem_nil n), fun g => absurd g.1 e⟩⟩
  · rw [sumZ_at, if_pos hy]
    simp [sz]
theorem noR_size {P P' : Pst} {y : Nat} (hy : y < 16) (h : NoR P y) (hk : V.at' P.vec y < 1000000000) (hP : IsP (mOr (mP P) (fun r n => r = y ∧ n = V.at' P.vec y + 1)) P') {z : Int} (hz : SzP (mP P) z) : SzP (mP P') (z + 1) := by
  have hb := V.at'_bd P.vec y
  obtain ⟨z', hz'⟩ := szP_ex P'
  have h4 := hz'.four SzP.none hz (szP_dot hy (num := V.at' P.vec y + 1) (by omega) (by omega)) (fun r hr n => ?_)
  · have : z' = z + 1 := by omega
    rw [← this]; exact hz'
  · have hm := hP.mem r hr n
    unfold mOr at hm
    constructor
    · rw [hm]; simp
    · constructor
      · intro g; exact g.2.elim
      · rintro ⟨g1, rfl, rfl⟩
        have := (noR_mem h _).1 g1
        omega
/-- dots compared -/
def eqD (x y : Rn) : Bool := (x.lo == y.lo) && (x.hi == y.hi)
theorem eqD_self (x : Rn) : eqD x x = true := by simp [eqD]
theorem run_eqD (x y : Rn) (w : World) : (Op.equalIn 10000 35 (.agg (RC x)) (.agg (RC y))).run Try.prog w = .ok (eqD x y) w := by
  have u3 := Try.underlying3
  have a3 := Try.isAgg3
  have z3 := Try.sizeOf3
  have hS : Try.prog.underlying 35 = some (.struct (Try.prog.fieldsOf 35)) := by kernel_rfl
  have hp : Try.prog.stoodInHeld 35 = false := by kernel_rfl
  obtain ⟨a, b⟩ := x
  obtain ⟨a', b'⟩ := y
  show (Op.equalIn 10000 35 (.agg #[.int .i64 a, .int .i64 b]) (.agg #[.int .i64 a', .int .i64 b'])).run Try.prog w = .ok ((a == a') && (b == b')) w
  rw [show (10000 : Nat) = 9999 + 1 from rfl, run_equalIn_struct w 9999 35 _ _ hS hp]
  simp only [Program.fieldsOf, Try.underlying35]
  have h3 : ∀ (p q : Int) w, (Op.equalIn 9999 3 (.int .i64 p) (.int .i64 q)).run Try.prog w = .ok (p == q) w := fun p q w => run_equalIn_int w 9998 3 .i64 .i64 p q Try.underlying3
  obtain ⟨D, hD⟩ : ∃ D, 9999 = D := ⟨9999, rfl⟩
  rw [hD] at h3 ⊢
  go_simp
  by_cases e1 : a = a'
  · by_cases e2 : b = b'
    · simp [e1, e2]
    · simp [e1, e2]
  · simp [e1]

attribute [local go_sem ↓] run_eqD
attribute [local go_sem] eqD_self
/-- what holds at each round: the past lies in the variable g, in form, none of the replica's spans in its cloud -/
structure GI (wb W : World) (p : Pv) (y : Nat) : Prop where
  b : Below wb.heap.size wb W
  x : PBox W wb.heap.size p
  s : PSrc W p
  c : Canon p.P
  n : NoR p.P y
theorem GI.on {wb W W' : World} {p : Pv} {y : Nat} (I : GI wb W p y) (hb : Below W.heap.size W W') : GI wb W' p y := ⟨I.b.trans (hb.mono I.b.size), I.x.below hb, I.s.below hb, I.c, I.n⟩
theorem GI.len {wb W : World} {p : Pv} {y : Nat} (I : GI wb W p y) : p.P.cloud.length ≤ 10000000000 := by have := (canon_len I.c).1; omega
set_option maxRecDepth 100000 in
set_option maxHeartbeats 8000000 in
theorem grows_any (a b c : Pv) (dv : Value) (rp ms : Int) (w : World) (hA : PSrc w a) :
    Calls Try.prog 5 #[CasV a b c dv rp ms] w fun e w' => e = .returned (.bool true) ∧ Below w.heap.size w w' := by
  have HA := hide hA
  clear hA
  have HB0 := hide (below_new w (.cells (CasC a b c dv rp ms) 28))
  have HCB := hide (cbox_new w (CasC a b c dv rp ms))
  go_enter Try.func5, Try.ntmps5
  go_wp2_with fail
  refine (fixed_true _).mono ?_
  rintro e w1 ⟨rfl, b1⟩
  have HB1 := hide (HB0.out.trans (b1.mono HB0.out.size))
  replace HCB := hide (HCB.out.below b1)
  replace HA := hide (HA.out.below HB1.out)
  have k7 : w1.cell? ⟨w.heap.size, 7, none⟩ = some (.int .i64 rp) := HCB.out.cell 7
  clear b1 HB0
  by_cases q1 : rp < 0
  · go_wp2_with fail
    go_ret
    exact ⟨rfl, HB1.out⟩
  by_cases q2 : 15 < rp
  · go_wp2_with fail
    go_ret
    exact ⟨rfl, HB1.out⟩
  obtain ⟨y, rfl⟩ : ∃ y : Nat, rp = y := ⟨rp.toNat, by omega⟩
  have hy : y < 16 := by omega
  have l1 := run_ldP HCB.out.pa
  go_wp2_with fail
  refine (pastNorm_any a _ HA.out).mono ?_
  rintro e wb ⟨p0, rfl, S0, n0, b2, c0⟩
  have HBB := hide (HB1.out.trans (b2.mono HB1.out.size))
  replace HCB := hide (HCB.out.below b2)
  obtain ⟨w2, hst, PB, b3, z3⟩ := madeP wb p0 wb.heap.size rfl
  have HS0 := hide (S0.below b3)
  have HX0 := hide PB
  have HC0 := hide c0.canon
  have HB2 := hide b3
  have hcb := HS0.out.cloud.big
  clear S0 n0 b2 c0 PB b3 z3 l1 k7 q1 q2 HA HB1
  go_wp2_with fail
  clear hst
  go_loopw [4] (fun i wr => ∃ j : Nat, j ≤ p0.cn ∧ i = .int .i64 j ∧ Hid ((∀ t, t < j → ¬ (p0.P.cloud.getD t sn0).rep = (y : Int)) ∧ Below w2.heap.size w2 wr)) (fun i _ => p0.cn - (intOf i).toNat)
  case atStart => exact ⟨0, Nat.zero_le _, rfl, fun t h => by omega, Below.refl _ _⟩
  case round =>
    obtain ⟨j, hj, rfl, HJ⟩ := hrel
    rename World => w6
    have n1 := (HX0.out.below HJ.out.2).nums.2
    have HB6 := hide (HB2.out.trans (HJ.out.2.mono HB2.out.size))
    have k7 : w6.cell? ⟨w.heap.size, 7, none⟩ = some (.int .i64 (y : Int)) := (HCB.out.below HB6.out).cell 7
    by_cases hlt : j < p0.cn
    · obtain ⟨ad, hco, A0⟩ := (HS0.out.below HJ.out.2).cloud.at j hlt
      obtain ⟨x, Hx⟩ : ∃ x, Hid (p0.P.cloud.getD j sn0 = x) := ⟨_, rfl⟩
      rw [Hx.out] at A0
      rw [hco] at n1
      have r1 := cell_regrown n1
      have r2 := cell_regrown k7
      have r3 := cell_regrown A0.c0
      clear A0
      by_cases g1 : x.rep = (y : Int)
      · have g1' : (x.rep == (y : Int)) = true := by simp [g1]
        clear g1
        go_wp2_with fail
        refine wp_region_quiet_below (by kernel_rfl) (by kernel_rfl) ?_
        repeat (with_reducible (refine wpQuiet_step ?_); intro K hK; go_simp; (try rw [if_neg (by unfold undef; simp)]); first | (with_reducible (refine hK _ ?_); clear hK K) | (apply Exists.intro; refine ⟨fun _ => ?_, hK _ ?_⟩; (fail); clear hK K))
        with_reducible (refine wpQuiet_nil ?_)
        intro w7 hw'
        obtain ⟨⟨dq, osq⟩, hw''⟩ := hw'
        have bw7 : Below w6.heap.size w6 w7 := by rw [hw'']; exact below_regrown w6 dq osq
        clear hw'' dq osq
        have HBE := hide (HBB.out.trans ((HB6.out.trans (bw7.mono HB6.out.size)).mono HBB.out.size))
        clear r1 r2 r3 bw7
        go_wp2_with fail
        go_ret
        exact ⟨rfl, HBE.out⟩
      · have g1' : (x.rep == (y : Int)) = false := by simp [g1]
        have HNO := hide g1
        clear g1
        go_wp2_with fail
        refine wp_region_quiet_below (by kernel_rfl) (by kernel_rfl) ?_
        repeat (with_reducible (refine wpQuiet_step ?_); intro K hK; go_simp; (try rw [if_neg (by unfold undef; simp)]); first | (with_reducible (refine hK _ ?_); clear hK K) | (apply Exists.intro; refine ⟨fun _ => ?_, hK _ ?_⟩; (fail); clear hK K))
        with_reducible (refine wpQuiet_nil ?_)
        intro w7 hw'
        obtain ⟨⟨dq, osq⟩, hw''⟩ := hw'
        have bw7 : Below w6.heap.size w6 w7 := by rw [hw'']; exact below_regrown w6 dq osq
        clear hw'' dq osq
        have HBN := hide (HJ.out.2.trans (bw7.mono HJ.out.2.size))
        clear r1 r2 r3 bw7
        go_wp2_with fail
        go_roundw
        case rel => exact ⟨j + 1, by omega, by go_num, fun t ht => by
          by_cases e : t = j
          · subst e; rw [Hx.out]; exact HNO.out
          · exact HJ.out.1 t (by omega), HBN.out⟩
        case measure => simp [intOf]; omega
    · obtain rfl : j = p0.cn := by omega
      have HG0 : Hid (GI wb w6 p0 y) := ⟨HB6.out, HX0.out.below HJ.out.2, HS0.out.below HJ.out.2, HC0.out, fun c hc e => by
        obtain ⟨t, ht, e2⟩ := ssrc_mem HS0.out.cloud hc
        exact HJ.out.1 t ht (by rw [e2]; exact e)⟩
      clear HJ HB6 k7
      go_wp2_with fail
      clear n1
      go_loopw [5] (fun i wr => ∃ (m : Nat) (p : Pv), m ≤ 40 ∧ i = .int .i64 m ∧ Hid (GI wb wr p y)) (fun i _ => 40 - (intOf i).toNat)
      case atStart => exact ⟨0, p0, Nat.zero_le _, rfl, HG0⟩
      case round =>
        obtain ⟨m, p, hm, rfl, HI⟩ := hrel
        rename World => v6
        clear HG0
        by_cases hm4 : m < 40
        · obtain ⟨k, Hk⟩ : ∃ k, Hid (V.at' p.P.vec y = k) := ⟨_, rfl⟩
          have HLK : Hid (LastOf p.P (y : Int) k) := by rw [← Hk.out]; exact noR_last hy HI.out.n
          have hkb := HLK.out.bd
          obtain ⟨zs, Hzs⟩ : ∃ z, Hid (SzP (mP p.P) z) := szP_ex _
          have hzb := Hzs.out.bd
          have HCk := hide (HCB.out.below HI.out.b)
          have k7 : v6.cell? ⟨w.heap.size, 7, none⟩ = some (.int .i64 (y : Int)) := HCk.out.cell 7
          have cL : ∀ dd os, Calls Try.prog 15 #[PV p, .int .i64 (y : Int)] (Sort.grow (redrawn v6 dd) os) (fun e w'' => e = .returned (.int .i64 k) ∧ ∃ q : Regrown, w'' = Sort.grow (redrawn v6 q.d) q.os) := fun dd os => Calls.regrown_of (lastT p (y : Int) k _ (HI.out.s.below (below_regrown v6 dd os)) HLK.out)
          have cS : ∀ dd os, Calls Try.prog 17 #[PV p] (Sort.grow (redrawn v6 dd) os) (fun e w'' => e = .returned (.int .i64 zs) ∧ ∃ q : Regrown, w'' = Sort.grow (redrawn v6 q.d) q.os) := fun dd os => Calls.regrown_of (sizeT p zs _ (HI.out.s.below (below_regrown v6 dd os)) Hzs.out)
          have r_p := ldP_re HI.out.x.at
          have r_7 := cell_regrown k7
          go_wp2_with fail
          refine wp_region_quiet_below (by kernel_rfl) (by kernel_rfl) ?_
          repeat (with_reducible (refine wpQuiet_step ?_); intro K hK; go_simp; (try rw [if_neg (by unfold undef; simp)]); first | (with_reducible (refine hK _ ?_); clear hK K) | (apply Exists.intro; refine ⟨fun _ => ?_, hK _ ?_⟩; (first | (go_at_call 15; exact cL _ _) | (go_at_call 17; exact cS _ _)); clear hK K))
          with_reducible (refine wpQuiet_nil ?_)
          intro v7 hw'
          obtain ⟨⟨dq, osq⟩, hw''⟩ := hw'
          have bv7 : Below v6.heap.size v6 v7 := by rw [hw'']; exact below_regrown v6 dq osq
          clear hw'' dq osq
          have HI7 := hide (HI.out.on bv7)
          have l7 := run_ldP HI7.out.x.at
          have j7 := (bv7.cell (World.block_lt_of_cell? _ _ k7)).trans k7
          clear cL cS r_p r_7 bv7 HI k7
          go_wp2_with fail
          refine (pastNext_any p (y : Int) k (isR_nat hy) HLK.out _ HI7.out.s).mono ?_
          rintro e v8 ⟨rfl, b8⟩
          obtain ⟨v9, hst, XD, b9, z9⟩ := madeD v8 (nxD (y : Int) k) v8.heap.size rfl
          have bb := b8.trans (b9.mono b8.size)
          have HI9 := hide (HI7.out.on bb)
          have HXD := hide XD
          have i7 := (bb.cell (World.block_lt_of_cell? _ _ j7)).trans j7
          have HV8 : Hid (wb.heap.size < v8.heap.size) := Nat.lt_of_lt_of_le HI7.out.x.lt b8.size
          clear b8 b9 z9 bb HI7 l7 j7 XD
          by_cases h9 : k = 1000000000
          · subst h9
            have e2 : nxE 1000000000 = 9 := if_pos rfl
            rw [e2]
            have HBE := hide (HBB.out.trans (HI9.out.b.mono HBB.out.size))
            go_wp2_with fail
            go_ret
            exact ⟨rfl, HBE.out⟩
          · have e1 : nxD (y : Int) k = ⟨(y : Int), k + 1⟩ := if_neg h9
            have e2 : nxE k = 0 := if_neg h9
            rw [e1] at hst HXD ⊢
            rw [e2]
            have h9' : (k == 1000000000) = false := by simp [h9]
            have hk9 : k < 1000000000 := by omega
            have ld9 := run_ldD HXD.out.at
            have lp9 := run_ldP HI9.out.x.at
            clear h9 e1 e2
            go_wp2_with fail
            clear hst
            refine (pastPut_any p y hy (k + 1) (by omega) (by omega) _ HI9.out.s HI9.out.len).mono ?_
            rintro e t1 ⟨p', rfl, S1, n1, b1, c1⟩
            have HX1 := hide (HI9.out.x.below b1)
            have s1 := run_stP (p' := p') HX1.out
            have HQ : Hid (IsP (mOr (mP p.P) (fun r n => r = y ∧ n = V.at' p.P.vec y + 1)) p'.P) := by rw [Hk.out]; exact c1
            have HGL := hide HI9.out.x.lt
            have HI1 : Hid (GI wb (t1.setRow wb.heap.size (PC p')) p' y) := by
              obtain ⟨C, hC, _⟩ := HQ.out
              refine ⟨below_setRow (HI9.out.b.trans (b1.mono HI9.out.b.size)) (Nat.le_refl _), setRow_heap _ _ _ _ _ _ HX1.out, psrc_off S1 (fun ad h => setRow_other _ _ _ _ (fun e => ?_)) (fun ad h => setRow_other _ _ _ _ (fun e => ?_)), hC.canon, noR_next hy HI9.out.n (by rw [Hk.out]; exact hk9) HQ.out⟩
              · have h1 := n1.1 ad h; have h2 := HGL.out; omega
              · have h1 := n1.2 ad h; have h2 := HGL.out; omega
            have HXD1 : Hid (Box (t1.setRow wb.heap.size (PC p')) v8.heap.size 35 ⟨(y : Int), k + 1⟩) := (HXD.out.below b1).off2 (by have h := HV8.out; omega)
            have HCk1 := hide (HCB.out.below HI1.out.b)
            have HZ1 : Hid (SzP (mP p'.P) (zs + 1)) := noR_size hy HI9.out.n (by rw [Hk.out]; exact hk9) HQ.out Hzs.out
            have lp1 := run_ldP HI1.out.x.at
            clear S1 n1 b1 c1 HX1 HXD HI9 lp9 ld9 i7 HGL
            generalize t1.setRow wb.heap.size (PC p') = t2 at s1 HI1 HXD1 HCk1 lp1
            go_wp2_with fail
            refine (sizeT p' (zs + 1) _ HI1.out.s HZ1.out).mono ?_
            rintro e t3 ⟨rfl, b3⟩
            have HI3 := hide (HI1.out.on b3)
            have HXD3 := hide (HXD1.out.below b3)
            have lp3 := run_ldP HI3.out.x.at
            clear b3 lp1 s1 HI1 HXD1
            have hwr : IntKind.i64.wrap (zs + 1) = zs + 1 := by rw [IntKind.wrap_i64]; omega
            go_wp2_with fail
            refine (isNormP_any p' _ HI3.out.s).mono ?_
            rintro e t4 ⟨bn, rfl, hbn, b4⟩
            obtain rfl : bn = true := hbn.out.2 (chain_of_canon HI3.out.c)
            have HI4 := hide (HI3.out.on b4)
            have HXD4 := hide (HXD3.out.below b4)
            have lp4 := run_ldP HI4.out.x.at
            have ld4 := run_ldD HXD4.out.at
            clear b4 lp3 HI3 HXD3 hbn
            have HHT : Hid (tB (dotIn p'.P ⟨(y : Int), k + 1⟩) = true) := tB_yes ⟨isR_nat hy, (HQ.out.mem y hy (k + 1)).2 (Or.inr ⟨rfl, by rw [Hk.out]⟩)⟩
            go_wp2_with fail
            refine (hasT p' ⟨(y : Int), k + 1⟩ _ HI4.out.s true HHT.out).mono ?_
            rintro e t5 ⟨rfl, b5⟩
            have HI5 := hide (HI4.out.on b5)
            have hcb' := HI5.out.s.cloud.big
            have n5 := HI5.out.x.nums.2
            clear b5 lp4 ld4 HI4 HXD4 HHT HZ1 hwr
            go_wp2_with fail
            clear n5
            go_loopw [10] (fun i wr => ∃ j : Nat, j ≤ p'.cn ∧ i = .int .i64 j ∧ Hid (Below t5.heap.size t5 wr)) (fun i _ => p'.cn - (intOf i).toNat)
            case atStart => exact ⟨0, Nat.zero_le _, rfl, Below.refl _ _⟩
            case round =>
              obtain ⟨j, hj, rfl, HJ⟩ := hrel
              rename World => u6
              have HI6 := hide (HI5.out.on HJ.out)
              have n6 := HI6.out.x.nums.2
              have k6 : u6.cell? ⟨w.heap.size, 7, none⟩ = some (.int .i64 (y : Int)) := (HCB.out.below HI6.out.b).cell 7
              by_cases hlt : j < p'.cn
              · obtain ⟨ad, hco, A0⟩ := HI6.out.s.cloud.at j hlt
                obtain ⟨x, Hx⟩ : ∃ x, Hid (p'.P.cloud.getD j sn0 = x) := ⟨_, rfl⟩
                have hin : x ∈ p'.P.cloud := by
                  rw [← Hx.out]
                  have hl : j < p'.P.cloud.length := by rw [HI6.out.s.cloud.len]; exact hlt
                  simp [List.getD, hl]
                have g1' : (x.rep == (y : Int)) = false := by simpa using HI6.out.n x hin
                rw [Hx.out] at A0
                rw [hco] at n6
                have r1 := cell_regrown n6
                have r2 := cell_regrown k6
                have r3 := cell_regrown A0.c0
                clear A0 hin
                go_wp2_with fail
                refine wp_region_quiet_below (by kernel_rfl) (by kernel_rfl) ?_
                repeat (with_reducible (refine wpQuiet_step ?_); intro K hK; go_simp; (try rw [if_neg (by unfold undef; simp)]); first | (with_reducible (refine hK _ ?_); clear hK K) | (apply Exists.intro; refine ⟨fun _ => ?_, hK _ ?_⟩; (fail); clear hK K))
                with_reducible (refine wpQuiet_nil ?_)
                intro u7 hw'
                obtain ⟨⟨dq, osq⟩, hw''⟩ := hw'
                have bu7 : Below u6.heap.size u6 u7 := by rw [hw'']; exact below_regrown u6 dq osq
                clear hw'' dq osq
                have HBN := hide (HJ.out.trans (bu7.mono HJ.out.size))
                clear r1 r2 r3 bu7 n6 k6
                go_wp2_with fail
                go_roundw
                case rel => exact ⟨j + 1, by omega, by go_num, HBN.out⟩
                case measure => simp [intOf]; omega
              · obtain rfl : j = p'.cn := by omega
                go_wp2_with fail
                go_roundw
                case rel => exact ⟨m + 1, p', by omega, by go_num, HI6.out⟩
                case measure => simp [intOf]; omega
        · obtain rfl : m = 40 := by omega
          have HBE := hide (HBB.out.trans (HI.out.b.mono HBB.out.size))
          rw [show ((40 : Nat) : Int) = 40 from rfl]
          go_wp2_with fail
          go_ret
          exact ⟨rfl, HBE.out⟩
end Go.Proofs.Ytlnhafjpmkopgaa
