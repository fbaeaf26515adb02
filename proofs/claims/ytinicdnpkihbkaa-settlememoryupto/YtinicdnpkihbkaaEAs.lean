/- The law's asks. -/
import Derived.Test.YtinicdnpkihbkaaEAl
import Derived.Test.YtinicdnpkihbkaaEMp
import Derived.Test.YtinicdnpkihbkaaEEm
namespace Go.Proofs.Ytinicdnpkihbkaa
open Go.RowKit
variable {w wr : World}

theorem SO.lit (e : TypeId) (w : World) : SO e (w.alloc (.cells #[] e)) (some ⟨w.heap.size, 0, none⟩) 0 0 [] :=
  ⟨by simp [scs], .inr ⟨w.heap.size, 0, _, rfl, Nat.zero_le _, heap_alloc_new w _, Nat.le_refl _, by unfold maxLen; omega, by simp, by simp [scs]⟩⟩
theorem map_getD' {β γ : Type} (f : β → γ) (l : List β) (i : Nat) (z : β) (y : γ) (h : i < l.length) : (l.map f).getD i y = f (l.getD i z) := by simp [List.getD, h]
/-- a Held as a value -/
abbrev HV (r : Int) (a1 : Option Addr) (n1 c1 : Nat) (a2 : Option Addr) (n2 c2 : Nat) (b : Bool) : Array Value := #[.int .i64 r, .slice a1 n1 c1, .slice a2 n2 c2, .bool b]
theorem hv_cells (w : World) (r : Int) (a1 : Option Addr) (n1 c1 : Nat) (a2 : Option Addr) (n2 c2 : Nat) (b : Bool) {W : World} (h : Below (w.alloc (.cells (HV r a1 n1 c1 a2 n2 c2 b) 46)).heap.size (w.alloc (.cells (HV r a1 n1 c1 a2 n2 c2 b) 46)) W) :
    W.cell? ⟨w.heap.size, 0, none⟩ = some (.int .i64 r) ∧ W.cell? ⟨w.heap.size, 1, none⟩ = some (.slice a1 n1 c1) ∧ W.cell? ⟨w.heap.size, 2, none⟩ = some (.slice a2 n2 c2) ∧ W.cell? ⟨w.heap.size, 3, none⟩ = some (.bool b) := by
  have h0 : ∀ i, W.cell? ⟨w.heap.size, i, none⟩ = (HV r a1 n1 c1 a2 n2 c2 b)[i]? := fun i => by
    rw [h.cell (p := ⟨w.heap.size, i, none⟩) (by simp), World.cell?_alloc_new]
  exact ⟨h0 0, h0 1, h0 2, h0 3⟩
attribute [local go_sem ↓] ldO_eq stO_eq ldP_eq stP_eq
set_option maxRecDepth 100000 in
set_option maxHeartbeats 1600000 in
theorem asks_any (r : Int) (a1 : Option Addr) (n1 d1 : Nat) (a2 : Option Addr) (n2 d2 : Nat) (b : Bool) (ho : Option Addr) (n hc : Nat) (L : List Pr) (co : Option Addr) (cc : Nat) (w : World) (Sh : PSrc w ho n hc L) (Sc : PSrc w co n cc L) (hn : n ≤ 1048576) :
    Calls Try.prog 19 #[.agg (HV r a1 n1 d1 a2 n2 d2 b), .slice ho n hc, .slice co n cc] w fun e w' => e = .returned (.bool true) ∧ Below w.heap.size w w' := by
  have HR := hide (reach_any r)
  have HQ := hide (refReach_any r)
  have HE := hide (enough_any r)
  have HF := hide (refEnough_any r)
  have hk := (clN_le r).2
  obtain ⟨k, hkk⟩ : ∃ k, clN r = k := ⟨_, rfl⟩
  rw [hkk] at HR HQ HE HF hk
  clear hkk
  obtain ⟨bL, hbL⟩ : ∃ bL, enB k L = bL := ⟨_, rfl⟩
  have HEL : Hid (∀ (bo : Option Addr) (cc : Nat) (w : World), PSrc w bo n cc L → Calls Try.prog 18 #[.int .i64 r, .slice bo n cc] w fun e w' => e = .returned (.bool bL) ∧ Below w.heap.size w w') := fun bo cc w S => by have := HE.out bo n cc L w S (by omega); rw [hbL] at this; exact this
  have HFL : Hid (∀ (bo : Option Addr) (cc : Nat) (w : World), QSrc w bo n cc (L.map toQ) → Calls Try.prog 25 #[.int .i64 r, .slice bo n cc] w fun e w' => e = .returned (.bool bL) ∧ Below w.heap.size w w') := fun bo cc w S => by have := HF.out bo n cc L w S (by omega); rw [hbL] at this; exact this
  clear hbL HE HF
  have hbb : (bL != bL) = false := by cases bL <;> rfl
  have HLe : Hid (∀ i, (rl (knw k L i) k).length ≤ 1000) := fun i => Nat.le_trans (rl_len _ _) (by omega)
  have HLen : Hid (L.length = n) := Sh.len
  obtain ⟨kd, hkd⟩ : ∃ kd, kdOf b = kd := ⟨_, rfl⟩
  have HOp : Hid (∀ (w : World) (ao : Option Addr) (c : Nat), PSrc w ao n c L → Calls Try.prog 16 #[.slice ao n c, .bool b] w fun e w' => ∃ bo cc, e = .returned (.slice bo n cc) ∧ OR w' bo n cc (L.map (opOf kd)) ∧ NewB w w' bo) := fun w ao c S => by have := ops_any ao n c L b w S (by omega); rw [hkd] at this; exact this
  have HCe := hide (fun W => hv_cells (W := W) w r a1 n1 d1 a2 n2 d2 b)
  have HBg := hide (below_new w (.cells (HV r a1 n1 d1 a2 n2 d2 b) 46))
  have HSh := hide (Sh.below HBg.out)
  have HSc := hide (Sc.below HBg.out)
  obtain ⟨wg, hwg⟩ : ∃ wg, w.alloc (.cells (HV r a1 n1 d1 a2 n2 d2 b) 46) = wg := ⟨_, rfl⟩
  obtain ⟨g, hg⟩ : ∃ g, w.heap.size = g := ⟨_, rfl⟩
  rw [hwg] at HCe HBg HSh HSc
  rw [hg] at HCe
  clear Sh Sc hkd
  go_enter Try.func19, Try.ntmps19
  go_wp2_with fail
  clear hg hwg
  have HB1 := hide (below_drew1 wg)
  refine wp_region_held_drew (S := fun W => W.cell? ⟨g, 0, none⟩ = some (.int .i64 r)) (by kernel_rfl) ((HCe.out _ HB1.out).1) (fun hHeld => ?_)
  refine wpAnyH_take (i := 0) (oi := { dst := some 16, op := Op.fieldAddr 46 (Operand.tmp 3) 0, type := 0, pos := "memory.go:78", after := #[], guard := none }) (v := ?_) rfl (by kernel_rfl) (by kernel_rfl) (by kernel_rfl) (fun _ _ _ h => h) (Or.inl ⟨by rfl, ?_⟩) (by assumption) ?_
  rotate_left
  · (intro w hSw; (try dsimp only at hSw); go_simp); first | done | with_reducible rfl
  simp only [Act.put, List.setIfInBounds_toArray, List.set_cons_zero, List.set_cons_succ]
  refine wpAnyH_take (i := 1) (oi := { dst := some 17, op := Op.load 3 (Operand.tmp 16), type := 3, pos := "memory.go:78", after := #[{ on := 0, ground := Ground.data }], guard := none }) (v := ?_) rfl (by kernel_rfl) (by kernel_rfl) (by kernel_rfl) (fun _ _ _ h => h) (Or.inl ⟨by rfl, ?_⟩) (by assumption) ?_
  rotate_left
  · (intro w hSw; (try dsimp only at hSw); go_simp); first | done | with_reducible rfl
  simp only [Act.put, List.setIfInBounds_toArray, List.set_cons_zero, List.set_cons_succ]
  refine wpAnyH_take (i := 2) (oi := { dst := some 18, op := Op.move (Operand.tmp 2), type := 22, pos := "memory.go:78", after := #[], guard := none }) (v := ?_) rfl (by kernel_rfl) (by kernel_rfl) (by kernel_rfl) (fun _ _ _ h => h) (Or.inl ⟨by rfl, ?_⟩) (by assumption) ?_
  rotate_left
  · (intro w hSw; (try dsimp only at hSw); go_simp); first | done | with_reducible rfl
  simp only [Act.put, List.setIfInBounds_toArray, List.set_cons_zero, List.set_cons_succ]
  have HSc1 := hide (HSc.out.below HB1.out)
  refine wpAnyH_ready (rs := [3]) (by kernel_rfl) (by simp) ?_
  refine AllReadyH.cons rfl (fun K hK => ?_) ?_
  rotate_left
  · exact AllReadyH.nil
  go_simp
  go_wp2_with fail
  refine (toRef_any _ _ _ _ _ HSc1.out (by omega)).mono ?_
  rintro e w2 ⟨b2, c2, rfl, Q2, N2⟩
  have HQ2 := hide Q2
  have HB2 := hide (HB1.out.trans (N2.1.mono HB1.out.size))
  clear Q2 N2
  refine hK.out _ _ (HCe.out _ HB2.out).1 (fun hHeld => ?_)
  clear hK K
  refine wpAnyH_ready (rs := [4]) (by kernel_rfl) (by simp) ?_
  refine AllReadyH.cons rfl (fun K hK => ?_) ?_
  rotate_left
  · exact AllReadyH.nil
  go_simp
  go_wp2_with fail
  refine (HQ.out _ _ _ _ _ HQ2.out.src (by omega)).mono ?_
  rintro e w3 ⟨g3, F3, rfl, M3⟩
  have HW3 := hide M3.src
  have HB3 := hide (HB2.out.trans (M3.bel.mono HB2.out.size))
  clear M3
  refine hK.out _ _ (HCe.out _ HB3.out).1 (fun hHeld => ?_)
  clear hK K
  refine wpAnyH_take (i := 5) (oi := { dst := some 7, op := Op.assign (Operand.tmp 20), type := 31, pos := "memory.go:78", after := #[{ on := 4, ground := Ground.data }, { on := 4, ground := Ground.chain }, { on := 0, ground := Ground.phase }, { on := 1, ground := Ground.phase }, { on := 2, ground := Ground.phase }, { on := 3, ground := Ground.phase }, { on := 4, ground := Ground.phase }], guard := none }) (v := ?_) rfl (by kernel_rfl) (by kernel_rfl) (by kernel_rfl) (fun _ _ _ h => h) (Or.inl ⟨by rfl, ?_⟩) (by assumption) ?_
  rotate_left
  · (intro w hSw; (try dsimp only at hSw); go_simp); first | done | with_reducible rfl
  simp only [Act.put, List.setIfInBounds_toArray, List.set_cons_zero, List.set_cons_succ]
  refine wpAnyH_done (by kernel_rfl) ?_ _
  clear hHeld
  clear HB1 HB2 HQ2 HSc1 HQ
  go_wp2_with fail
  have HB4 := hide (HB3.out.trans ((below_drew1 w3).mono HB3.out.size))
  have HW4 := hide (HW3.out.below (below_drew1 w3))
  refine wp_region_held_drew (S := fun W => W.cell? ⟨g, 0, none⟩ = some (.int .i64 r)) (by kernel_rfl) ((HCe.out _ HB4.out).1) (fun hHeld => ?_)
  refine wpAnyH_take (i := 0) (oi := { dst := some 21, op := Op.fieldAddr 46 (Operand.tmp 3) 0, type := 0, pos := "memory.go:79", after := #[], guard := none }) (v := ?_) rfl (by kernel_rfl) (by kernel_rfl) (by kernel_rfl) (fun _ _ _ h => h) (Or.inl ⟨by rfl, ?_⟩) (by assumption) ?_
  rotate_left
  · (intro w hSw; (try dsimp only at hSw); go_simp); first | done | with_reducible rfl
  simp only [Act.put, List.setIfInBounds_toArray, List.set_cons_zero, List.set_cons_succ]
  refine wpAnyH_take (i := 1) (oi := { dst := some 22, op := Op.load 3 (Operand.tmp 21), type := 3, pos := "memory.go:79", after := #[{ on := 0, ground := Ground.data }], guard := none }) (v := ?_) rfl (by kernel_rfl) (by kernel_rfl) (by kernel_rfl) (fun _ _ _ h => h) (Or.inl ⟨by rfl, ?_⟩) (by assumption) ?_
  rotate_left
  · (intro w hSw; (try dsimp only at hSw); go_simp); first | done | with_reducible rfl
  simp only [Act.put, List.setIfInBounds_toArray, List.set_cons_zero, List.set_cons_succ]
  refine wpAnyH_take (i := 2) (oi := { dst := some 23, op := Op.move (Operand.tmp 2), type := 22, pos := "memory.go:79", after := #[], guard := none }) (v := ?_) rfl (by kernel_rfl) (by kernel_rfl) (by kernel_rfl) (fun _ _ _ h => h) (Or.inl ⟨by rfl, ?_⟩) (by assumption) ?_
  rotate_left
  · (intro w hSw; (try dsimp only at hSw); go_simp); first | done | with_reducible rfl
  simp only [Act.put, List.setIfInBounds_toArray, List.set_cons_zero, List.set_cons_succ]
  have HSc4 := hide (HSc.out.below HB4.out)
  refine wpAnyH_ready (rs := [3]) (by kernel_rfl) (by simp) ?_
  refine AllReadyH.cons rfl (fun K hK => ?_) ?_
  rotate_left
  · exact AllReadyH.nil
  go_simp
  go_wp2_with fail
  refine (toRef_any _ _ _ _ _ HSc4.out (by omega)).mono ?_
  rintro e w5 ⟨b5, c5, rfl, Q5, N5⟩
  have HQ5 := hide Q5
  have HB5 := hide (HB4.out.trans (N5.1.mono HB4.out.size))
  have HW5 := hide (HW4.out.below N5.1)
  clear Q5 N5
  refine hK.out _ _ (HCe.out _ HB5.out).1 (fun hHeld => ?_)
  clear hK K
  refine wpAnyH_ready (rs := [4]) (by kernel_rfl) (by simp) ?_
  refine AllReadyH.cons rfl (fun K hK => ?_) ?_
  rotate_left
  · exact AllReadyH.nil
  go_simp
  go_wp2_with fail
  refine (HFL.out _ _ _ HQ5.out.src).mono ?_
  rintro e w6 ⟨rfl, b6⟩
  have HB6 := hide (HB5.out.trans (b6.mono HB5.out.size))
  have HW6 := hide (HW5.out.below b6)
  clear b6
  refine hK.out _ _ (HCe.out _ HB6.out).1 (fun hHeld => ?_)
  clear hK K
  refine wpAnyH_take (i := 5) (oi := { dst := some 8, op := Op.assign (Operand.tmp 25), type := 4, pos := "memory.go:79", after := #[{ on := 4, ground := Ground.data }, { on := 4, ground := Ground.chain }, { on := 0, ground := Ground.phase }, { on := 1, ground := Ground.phase }, { on := 2, ground := Ground.phase }, { on := 3, ground := Ground.phase }, { on := 4, ground := Ground.phase }], guard := none }) (v := ?_) rfl (by kernel_rfl) (by kernel_rfl) (by kernel_rfl) (fun _ _ _ h => h) (Or.inl ⟨by rfl, ?_⟩) (by assumption) ?_
  rotate_left
  · (intro w hSw; (try dsimp only at hSw); go_simp); first | done | with_reducible rfl
  simp only [Act.put, List.setIfInBounds_toArray, List.set_cons_zero, List.set_cons_succ]
  refine wpAnyH_done (by kernel_rfl) ?_ _
  clear hHeld
  clear HB3 HW3 HB4 HW4 HB5 HW5 HQ5 HSc4 HFL
  obtain ⟨x0, -, -, x3⟩ := HCe.out _ HB6.out
  have HSh6 := hide (HSh.out.below HB6.out)
  go_wp2_with (first
    | (have hh := HMa.out; clear hh; go_at_call 11; refine (HR.out _ _ _ _ _ HSh7.out (by omega)).mono ?_; rintro e wb ⟨gb, Fb, rfl, Mb⟩; have HMb := hide Mb; have HB8 := hide (HB7.out.trans (Mb.bel.mono HB7.out.size)); have HSh8 := hide (HSh.out.below HB8.out); obtain ⟨y0, -, -, y3⟩ := HCe.out _ HB8.out; clear Mb HSh7 HR z0 z3)
    | (go_at_call 11; refine (HR.out _ _ _ _ _ HSh6.out (by omega)).mono ?_; rintro e wa ⟨ga, Fa, rfl, Ma⟩; have HMa := hide Ma; have HB7 := hide (HB6.out.trans (Ma.bel.mono HB6.out.size)); have HSh7 := hide (HSh.out.below HB7.out); obtain ⟨z0, -, -, z3⟩ := HCe.out _ HB7.out; clear Ma HSh6 x0 x3)
    | (have hh := HPo.out; clear hh; go_at_call 16; refine (HOp.out _ _ _ HSh9.out).mono ?_; rintro e wq ⟨qo, qc, rfl, Rq, Nq⟩; have HQo := hide Rq; have HNq := hide Nq; have HB10 := hide (HB9.out.trans (Nq.1.mono HB9.out.size)); obtain ⟨u0, -, -, u3⟩ := HCe.out _ HB10.out; have HLa := hide (((HMa.out.src.below HMb.out.bel).below HNp.out.1).below Nq.1); have HLb := hide ((HMb.out.src.below HNp.out.1).below Nq.1); have HLw := hide (HW6.out.below (HMa.out.bel.trans ((HMb.out.bel.trans ((HNp.out.1.trans (Nq.1.mono HNp.out.1.size)).mono HMb.out.bel.size)).mono HMa.out.bel.size))); clear Rq Nq HSh9 HOp t0 t3)
    | (go_at_call 16; refine (HOp.out _ _ _ HSh8.out).mono ?_; rintro e wp ⟨po, pc, rfl, Rp, Np⟩; have HPo := hide Rp; have HNp := hide Np; have HB9 := hide (HB8.out.trans (Np.1.mono HB8.out.size)); have HSh9 := hide (HSh.out.below HB9.out); obtain ⟨t0, -, -, t3⟩ := HCe.out _ HB9.out; clear Rp Np HSh8 y0 y3)
    | (go_at_call 10; refine (sameLists_true _ _ _ _ _ _ _ HLa.out HLw.out hk HLe.out).mono ?_; rintro e w11 ⟨rfl, b11⟩; have HB11 := hide b11; have HLb1 := hide (HLb.out.below b11); have HLw1 := hide (HLw.out.below b11); have hb11 := HB10.out.trans (b11.mono HB10.out.size); obtain ⟨v0, -, -, v3⟩ := HCe.out _ hb11; clear b11 HLa HLb HLw hb11 u0 u3)
    | (go_at_call 10; refine (sameLists_true _ _ _ _ _ _ _ HLb1.out HLw1.out hk HLe.out).mono ?_; rintro e w12 ⟨rfl, b12⟩; have HB12 := hide (HB11.out.trans (b12.mono HB11.out.size)); have hb12 := HB10.out.trans (HB12.out.mono HB10.out.size); obtain ⟨s0, -, -, s3⟩ := HCe.out _ hb12; have HSh12 := hide (HSh.out.below hb12); clear b12 HLb1 HLw1 hb12 v0 v3 HB11)
    | (go_at_call 18; refine (HEL.out _ _ _ HSh12.out).mono ?_; rintro e w13 ⟨rfl, b13⟩; have HB13 := hide (HB12.out.trans (b13.mono HB12.out.size)); have hb13 := HB10.out.trans (HB13.out.mono HB10.out.size); have HSh13 := hide (HSh.out.below hb13); have HSc13 := hide (HSc.out.below hb13); clear b13 HSh12 hb13 s0 s3 HB12)
    | (go_at_call 15; refine (samePair_true _ _ _ _ _ _ _ _ _ HSh13.out HSc13.out rfl (by omega)).mono ?_; rintro e w14 ⟨rfl, b14⟩; have HB14 := hide (HB13.out.trans (b14.mono HB13.out.size)); clear b14 HSh13 HSc13 HB13))
  clear HEL hbb
  have HBq := hide (fun W (h : Below wq.heap.size wq W) => HB10.out.trans (h.mono HB10.out.size))
  go_loopw [80] (fun i wr => ∃ j : Nat, j ≤ n ∧ i = .int .i64 j ∧ Hid (Below wq.heap.size wq wr)) (fun i _ => n - (intOf i).toNat)
  case atStart => exact ⟨0, Nat.zero_le _, rfl, HB14⟩
  case round =>
    clear HB14
    obtain ⟨j, hj, rfl, HB⟩ := hrel
    by_cases hlt : j < n
    · obtain ⟨ad, rfl, x⟩ := (HSc.out.below (HBq.out _ HB.out)).at j hlt
      have hjL : j < L.length := by have := HLen.out; omega
      obtain ⟨pb, rfl, xp⟩ := (((HPo.out.below HNq.out.1).below HB.out)).at j hlt
      obtain ⟨qb, rfl, xq⟩ := (HQo.out.below HB.out).at j hlt
      rw [map_getD' _ _ _ p0 _ hjL] at xp xq
      obtain ⟨y, hy⟩ : ∃ y, L.getD j p0 = y := ⟨_, rfl⟩
      rw [hy] at x xp xq
      obtain ⟨f, t⟩ := y
      have x0 : (ldP (.pointer (some (ad.add (j * 2))))).run Try.prog wr = .ok (.agg #[.int .i64 f, .int .i64 t]) wr := run_laP x
      obtain ⟨w4, hst, hbx, hbl, -⟩ := madeP wr ⟨f, t⟩ wr.heap.size rfl
      have hst' : (stP (.pointer (some ⟨wr.heap.size, 0, none⟩)) (.agg #[.int .i64 f, .int .i64 t])).run Try.prog (wr.alloc (.cells #[.int .i64 0, .int .i64 0] 28)) = .ok () w4 := hst
      have k0 := hbx.c0
      have k1 := hbx.c1
      simp only at k0 k1
      have xp4 := xp.on hbl
      have xq4 := xq.on hbl
      have p1 := xp4.c1
      have p3 := xp4.c3
      have p6 := xp4.c6
      rw [Addr.add_lit] at p1 p3 p6
      simp only [opOf] at p1 p3 p6
      have lp : ∀ q, (ldO (.pointer (some ⟨pb, j * 7, none⟩))).run Try.prog (w4.drewN q) = .ok (.agg (OC (opOf kd ⟨f, t⟩))) (w4.drewN q) := fun q => run_laO (xp4.on (below_drewN w4 q))
      have lq : ∀ q, (ldO (.pointer (some ⟨qb, j * 7, none⟩))).run Try.prog (w4.drewN q) = .ok (.agg (OC (opOf kd ⟨f, t⟩))) (w4.drewN q) := fun q => run_laO (xq4.on (below_drewN w4 q))
      have e1 : ∀ w : World, (binOp .neq 43 (.agg (OC (opOf kd ⟨f, t⟩))) (.agg (OC (opOf kd ⟨f, t⟩)))).run Try.prog w = .ok (.bool false) w := run_neO _
      have e2 : ∀ (o p : Operand) (w : World), (eqGuard .neq 43 o p (.agg (OC (opOf kd ⟨f, t⟩))) (.agg (OC (opOf kd ⟨f, t⟩)))).run Try.prog w = .ok () w := run_egO _
      have HB2 := hide (HB.out.trans (hbl.mono HB.out.size))
      clear hst hbx hbl x xp xq hy hjL xp4 xq4 HB
      go_wp2_with fail
      clear x0 hst'
      go_quiet (fail)
      have HB3 := hide (HB2.out.trans ((below_drewN w4 nq).mono HB2.out.size))
      clear HB2 k0 k1 p1 p3 p6 lp lq e1 e2
      go_wp2_with fail
      go_roundw
      case rel => exact ⟨j + 1, by omega, by go_num, HB3⟩
      case measure => simp [intOf]; omega
    · have HSO := hide (SO.lit 33 wr)
      have HNe : Hid (NewB wq (wr.alloc (.cells #[] 33)) (some ⟨wr.heap.size, 0, none⟩)) := ⟨HB.out.trans ((below_new wr _).mono HB.out.size), fun i hi => by have h1 := Option.some.inj hi; have h2 := HB.out.size; simp only at h1; omega⟩
      have Hca : Hid (∀ W, Below wq.heap.size wq W → ∀ i, i < k → W.cell? ((⟨ga, 0, none⟩ : Addr).add i) = some (slv ((fl k Fa).getD i sl0))) := fun W hW i hi => by
        rw [fl_at k Fa i hi, Addr.add_lit, Nat.zero_add]
        exact ((((HMa.out.below HMb.out.bel).below HNp.out.1).below HNq.out.1).below hW).cell i hi
      have Hcb : Hid (∀ W, Below wq.heap.size wq W → ∀ i, i < k → W.cell? ((⟨gb, 0, none⟩ : Addr).add i) = some (slv ((fl k Fb).getD i sl0))) := fun W hW i hi => by
        rw [fl_at k Fb i hi, Addr.add_lit, Nat.zero_add]
        exact (((HMb.out.below HNp.out.1).below HNq.out.1).below hW).cell i hi
      have h2k : k + k ≤ 32 := by omega
      have H0k : Hid (0 + k ≤ 1000000) := by show _ ≤ _; omega
      have Hx16 : Hid (∀ q, q < k + k → ((xl k (fun i => rl (knw k L i) k) ++ xl k (fun i => rl (knw k L i) k)).getD q []).length ≤ 16) := fun q hq => by
        by_cases hqk : q < k
        · rw [getD_app_l _ _ _ _ (by rw [xl_len]; exact hqk), xl_at _ _ _ hqk]
          exact Nat.le_trans (rl_len _ _) hk
        · rw [getD_app_r _ _ _ _ (by rw [xl_len]; omega), xl_len, xl_at _ _ _ (by omega)]
          exact Nat.le_trans (rl_len _ _) hk
      have HBw6 := hide (HBg.out.trans (HB6.out.mono HBg.out.size))
      go_wp2_with (first
        | (at_builtin; refine HS1.out.appS (G := fl k Fb) ⟨gb, 0, none⟩ (fl_len k Fb) (Hcb.out _ HN1.out.1) infoSI Try.underlying31 (by omega) rfl (.tmp 125) (.tmp 126) rfl rfl rfl ?_; intro b2 c2 w16 S2 A2; have HS2 := hide S2; have HN2 := hide (HN1.out.ap A2); clear S2 A2 HS1 HN1 Hca Hcb)
        | (at_builtin; refine HSO.out.appS (G := fl k Fa) ⟨ga, 0, none⟩ (fl_len k Fa) (Hca.out _ HNe.out.1) infoSI Try.underlying31 H0k.out rfl (.tmp 123) (.tmp 124) rfl rfl rfl ?_; intro b1 c1 w15 S1 A1; rw [Nat.zero_add] at S1 ⊢; have HS1 := hide S1; have HN1 := hide (HNe.out.ap A1); clear S1 A1 HSO HNe)
        | (go_at_call 26; have hLN := two_lists (w2 := wq) HMa.out HMb.out HBw6.out (HNp.out.1.trans ((HNq.out.1.trans (HN2.out.1.mono HNq.out.1.size)).mono HNp.out.1.size)) HS2.out HN2.out.2 (Nat.le_trans HNp.out.1.size HNq.out.1.size) (fun i h1 h2 => HN2.out.1.block i h2) HN2.out.1.size; refine (markInts_any _ _ _ _ _ _ _ _ _ hLN (Nat.le_trans HBw6.out.size (Nat.le_trans HMa.out.bel.size (Nat.le_trans HMb.out.bel.size (Nat.le_trans HNp.out.1.size HNq.out.1.size)))) h2k Hx16.out).mono ?_; rintro e w17 ⟨rfl, F17, X17, L17⟩; have HL17 := hide L17; clear L17 hLN)
        | (go_at_call 27; refine (markOps_any _ _ _ _ _ _ _ _ w _ ⟨HPo.out.keep (fun i hi => (HL17.out.stay i (HNp.out.2 i hi) (Nat.lt_of_lt_of_le (HPo.out.lt i hi) HNq.out.1.size)).trans (HNq.out.1.block i (HPo.out.lt i hi))), ⟨HL17.out.r.newo.1, fun i hi => Nat.le_trans HBw6.out.size (Nat.le_trans HMa.out.bel.size (Nat.le_trans HMb.out.bel.size (HNp.out.2 i hi)))⟩, HQo.out.keep (fun i hi => HL17.out.stay i (Nat.le_trans HNp.out.1.size (HNq.out.2 i hi)) (HQo.out.lt i hi)), ⟨HL17.out.r.newo.1, fun i hi => Nat.le_trans HBw6.out.size (Nat.le_trans HMa.out.bel.size (Nat.le_trans HMb.out.bel.size (Nat.le_trans HNp.out.1.size (HNq.out.2 i hi))))⟩, fun i h1 h2 => Nat.lt_irrefl i (Nat.lt_of_lt_of_le (HPo.out.lt i h1) (HNq.out.2 i h2))⟩ hn hn).mono ?_; rintro e w18 ⟨rfl, b18⟩; have HB18 := hide b18; clear b18))
      go_ret
      exact ⟨rfl, HB18.out⟩
end Go.Proofs.Ytinicdnpkihbkaa
