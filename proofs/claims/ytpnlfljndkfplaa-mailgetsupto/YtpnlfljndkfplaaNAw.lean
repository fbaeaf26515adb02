/- The law's some and awake. -/
import Derived.Test.YtpnlfljndkfplaaNGe
import Derived.Test.YtpnlfljndkfplaaNEq
namespace Go.Proofs.Ytpnlfljndkfplaa
open Go.RowKit
attribute [local go_sem ↓] ldP_eq stP_eq ldM_eq stM_eq mkP_eq
attribute [local go_sem] to_MC MC_s0 MC_s1 MC_s2 MC_s3 MC_s4 MC_s5
variable {w w' w2 : World} {g : Nat}

theorem lit_src (w : World) (Z : List Int) (hO : Oc Z) (cs : Array Value) (hc : cs = (Z.map fun z => Value.int .u8 z).toArray) (n : Nat) (hn : Z.length = n) : Src (w.alloc (.cells cs 5)) (some ⟨w.heap.size, 0, none⟩) n n Z := by
  subst hc
  refine ⟨hn, fun h => (by cases h), fun ad h t ht => ?_, hO⟩
  obtain rfl := Option.some.inj h
  have ht2 : t < Z.length := by omega
  rw [Addr.add_lit, Nat.zero_add, World.cell?_alloc_new]
  simp [List.getD, ht2]
theorem part_lit (w : World) (p : Pt) : PSrc (w.alloc (.cells #[.int .i64 p.cart, .slice p.vo p.vn p.vc] 46)) (some ⟨w.heap.size, 0, none⟩) 1 1 [p] := by
  refine ⟨rfl, fun h => (by cases h), fun ad h t ht => ?_, by omega⟩
  obtain rfl := Option.some.inj h
  obtain rfl : t = 0 := by omega
  rw [Nat.zero_mul, add_zero]
  exact ⟨by rw [World.cell?_alloc_new]; rfl, by rw [Addr.add_lit, Nat.zero_add, World.cell?_alloc_new]; rfl⟩
theorem oc2 : Oc [255, 0] := fun t => by match t with | 0 => decide | 1 => decide | t + 2 => simp
set_option maxRecDepth 100000 in
theorem some_any (w : World) : Calls Try.prog 20 #[] w fun r w' => ∃ q v, r = .returned (MV ⟨1, 0, 1, 2, 3, some ⟨q, 0, none⟩, 1, 1⟩) ∧ PSrc w' (some ⟨q, 0, none⟩) 1 1 [⟨4, some ⟨v, 0, none⟩, 2, 2⟩] ∧ Src w' (some ⟨v, 0, none⟩) 2 2 [255, 0] ∧ Below w.heap.size w w' := by
  obtain ⟨w1, hw1⟩ : ∃ w1, w.alloc (.cells (MC ⟨0, 0, 0, 0, 0, none, 0, 0⟩) 24) = w1 := ⟨_, rfl⟩
  obtain ⟨w2, hw2⟩ : ∃ w2, w1.alloc (.cells #[.int .u8 255, .int .u8 0] 5) = w2 := ⟨_, rfl⟩
  obtain ⟨w3, hw3⟩ : ∃ w3, w2.alloc (.cells #[.int .i64 4, .slice (some ⟨w1.heap.size, 0, none⟩) 2 2] 46) = w3 := ⟨_, rfl⟩
  have z1 : w1.heap.size = w.heap.size + 1 := by rw [← hw1]; simp
  have z2 : w2.heap.size = w.heap.size + 2 := by rw [← hw2]; simp [z1]
  have m3 : MBox w3 w.heap.size ⟨0, 0, 0, 0, 0, none, 0, 0⟩ := by
    have h1 : MBox w1 w.heap.size ⟨0, 0, 0, 0, 0, none, 0, 0⟩ := by rw [← hw1]; exact mbox_new w _
    have h2 : MBox w2 w.heap.size ⟨0, 0, 0, 0, 0, none, 0, 0⟩ := by rw [← hw2]; exact h1.below (below_new _ _)
    rw [← hw3]; exact h2.below (below_new _ _)
  have p3 : PSrc w3 (some ⟨w2.heap.size, 0, none⟩) 1 1 [⟨4, some ⟨w1.heap.size, 0, none⟩, 2, 2⟩] := by
    have := part_lit w2 ⟨4, some ⟨w1.heap.size, 0, none⟩, 2, 2⟩
    rw [← hw3]; exact this
  have s2 : Src w2 (some ⟨w1.heap.size, 0, none⟩) 2 2 [255, 0] := by
    rw [← hw2]
    exact lit_src w1 [255, 0] oc2 _ rfl 2 rfl
  have s3 : Src w3 (some ⟨w1.heap.size, 0, none⟩) 2 2 [255, 0] := by rw [← hw3]; exact s2.below (below_new _ _)
  have hst : (stM (.pointer (some ⟨w.heap.size, 0, none⟩)) (.agg (MC ⟨1, 0, 1, 2, 3, some ⟨w2.heap.size, 0, none⟩, 1, 1⟩))).run Try.prog w3 = .ok () (w3.setRow w.heap.size (MC ⟨1, 0, 1, 2, 3, some ⟨w2.heap.size, 0, none⟩, 1, 1⟩)) := run_stM m3
  have HFin : Hid (MBox (w3.setRow w.heap.size (MC ⟨1, 0, 1, 2, 3, some ⟨w2.heap.size, 0, none⟩, 1, 1⟩)) w.heap.size ⟨1, 0, 1, 2, 3, some ⟨w2.heap.size, 0, none⟩, 1, 1⟩ ∧ PSrc (w3.setRow w.heap.size (MC ⟨1, 0, 1, 2, 3, some ⟨w2.heap.size, 0, none⟩, 1, 1⟩)) (some ⟨w2.heap.size, 0, none⟩) 1 1 [⟨4, some ⟨w1.heap.size, 0, none⟩, 2, 2⟩] ∧ Src (w3.setRow w.heap.size (MC ⟨1, 0, 1, 2, 3, some ⟨w2.heap.size, 0, none⟩, 1, 1⟩)) (some ⟨w1.heap.size, 0, none⟩) 2 2 [255, 0] ∧ Below w.heap.size w (w3.setRow w.heap.size (MC ⟨1, 0, 1, 2, 3, some ⟨w2.heap.size, 0, none⟩, 1, 1⟩))) := by
    have hb : Below w.heap.size w w3 := by
      have b1 : Below w.heap.size w w1 := by rw [← hw1]; exact below_new _ _
      have b2 : Below w.heap.size w w2 := by rw [← hw2]; exact b1.alloc (by omega) _
      rw [← hw3]; exact b2.alloc (by omega) _
    exact ⟨m3.setRow, p3.keep (fun k e => setRow_other _ _ _ _ (by have : w2.heap.size = k := Option.some.inj e; omega)), s3.keep0 (fun _ k e => setRow_other _ _ _ _ (by have : w1.heap.size = k := Option.some.inj e; omega)), below_setRow hb (Nat.le_refl _)⟩
  clear p3 m3 z1 z2 s2 s3
  go_enter Try.func20, Try.ntmps20
  go_wp2_with fail
  refine bodyPost_ret (v := MV ⟨1, 0, 1, 2, 3, some ⟨w2.heap.size, 0, none⟩, 1, 1⟩) ?_ rfl ⟨_, _, rfl, HFin.out.2.1, HFin.out.2.2.1, HFin.out.2.2.2⟩
  exact resM1 Try.results20 rfl HFin.out.1
/-- the mail of some, plain; its bytes -/
def pSome : Pm := ⟨1, 0, 1, 2, 3, [(4, [255, 0])]⟩
def bSome : List Int := [1, 0, 1, 2, 3, 1, 4, 2, 255, 0]
theorem mailB_some : mailB pSome = bSome := by
  unfold mailB pSome partsB
  simp [partB, frm, numB_lt, bSome]
theorem oc10 : Oc bSome := fun t => by
  unfold bSome
  match t with
  | 0 => decide | 1 => decide | 2 => decide | 3 => decide | 4 => decide | 5 => decide | 6 => decide | 7 => decide | 8 => decide | 9 => decide
  | t + 10 => simp
theorem ckP_some : ckP pSome = 0 := by decide
theorem pMail_some : pMail bSome = some (pSome, []) := by
  have := pMail_to pSome [] (by unfold Pm.okN pSome; simp)
  rwa [List.append_nil, mailB_some] at this
set_option maxRecDepth 100000 in
set_option maxHeartbeats 4000000 in
theorem awake_any (w : World) : Calls Try.prog 9 #[] w fun r w' => r = .returned (.bool true) ∧ Below w.heap.size w w' := by
  have HC := hide (some_any w)
  have HBw : Hid (Below w.heap.size w w) := Below.refl _ _
  go_enter Try.func9, Try.ntmps9
  go_wp2_with fail
  refine HC.out.mono ?_
  rintro r w1 ⟨q, v, rfl, P1, S1, b1⟩
  have hck : ckE ⟨1, 0, 1, 2, 3, some ⟨q, 0, none⟩, 1, 1⟩ [⟨4, some ⟨v, 0, none⟩, 2, 2⟩] = 0 := by rfl
  have hpm : pmOf 1 0 1 2 3 1 [⟨4, some ⟨v, 0, none⟩, 2, 2⟩] [[255, 0]] = pSome := rfl
  have hPS : PS w1 1 [⟨4, some ⟨v, 0, none⟩, 2, 2⟩] [[255, 0]] := fun k hk => by obtain rfl : k = 0 := (by omega); exact S1
  have hP := put_ok 1 0 1 2 3 (some ⟨q, 0, none⟩) 1 1 _ [[255, 0]] w1 P1 hPS hck (by rw [hpm, mailB_some]; decide)
  rw [hpm] at hP
  have HP := hide hP
  have HB1 := hide b1
  clear hck hpm hPS hP P1 S1 b1 HC
  go_wp2_with fail
  refine HP.out.mono ?_
  rintro r w2 ⟨bo, n, cc, rfl, B2, N2⟩
  rw [mailB_some] at B2
  have hn : bSome.length = n := B2.len
  obtain rfl : n = 10 := hn.symm
  have S2 := B2.srcO oc10
  have HS2 := hide S2
  have hcap := B2.cap
  have L2 := lit_src w2 bSome oc10 #[.int .u8 1, .int .u8 0, .int .u8 1, .int .u8 2, .int .u8 3, .int .u8 1, .int .u8 4, .int .u8 2, .int .u8 255, .int .u8 0] rfl 10 rfl
  have b3 := below_new w2 (.cells #[.int .u8 1, .int .u8 0, .int .u8 1, .int .u8 2, .int .u8 3, .int .u8 1, .int .u8 4, .int .u8 2, .int .u8 255, .int .u8 0] 5)
  obtain ⟨w3, hw3⟩ : ∃ w3, w2.alloc (.cells #[.int .u8 1, .int .u8 0, .int .u8 1, .int .u8 2, .int .u8 3, .int .u8 1, .int .u8 4, .int .u8 2, .int .u8 255, .int .u8 0] 5) = w3 := ⟨_, rfl⟩
  rw [hw3] at b3 L2
  obtain ⟨g5, hg5⟩ : ∃ g5, w2.heap.size = g5 := ⟨_, rfl⟩
  rw [hg5] at L2
  have hE := eqB_any bo (some ⟨g5, 0, none⟩) 10 cc 10 10 bSome bSome w3 (S2.below b3) L2 (by omega)
  rw [decide_eq_true rfl] at hE
  have HE := hide hE
  have HB2 : Hid (Below w.heap.size w w3) := HB1.out.trans ((N2.1.trans (b3.mono N2.1.size)).mono HB1.out.size)
  have HS3 := hide (S2.below b3)
  have HCap := hide hcap
  clear hE S2 hcap L2 b3 N2 B2 HP hn
  go_wp2_with fail
  refine HE.out.mono ?_
  rintro r w4 ⟨rfl, b4⟩
  have HB4 := hide (HB2.out.trans (b4.mono HB2.out.size))
  have HG := hide (get_any bo 10 cc bSome w4 (HS3.out.below b4) HCap.out (by omega))
  clear b4 HE HB2
  go_wp2_with fail
  refine HG.out.mono ?_
  rintro r w5 ⟨b5, h5⟩
  obtain ⟨a, X, Y, rfl, hM⟩ : ∃ a X Y, r = .returned (.tuple #[MV a, .int .i64 0]) ∧ MlIs w4.heap.size w5 pSome a X Y := by
    rcases h5 with ⟨p, a, X, Y, hp, hc, hr, hM⟩ | ⟨h, _⟩
    · rw [pMail_some] at hp
      obtain rfl : pSome = p := (by simpa using hp)
      exact ⟨a, X, Y, hr, hM⟩
    · exact absurd ckP_some (h pSome pMail_some)
  obtain ⟨a1, a2, a3, a4, a5, po, pn, pc⟩ := a
  obtain ⟨n1, n2, n3, n4, n5, n6⟩ := hM.nums
  obtain rfl : a1 = 1 := n1
  obtain rfl : a2 = 0 := n2
  obtain rfl : a3 = 1 := n3
  obtain rfl : a4 = 2 := n4
  obtain rfl : a5 = 3 := n5
  obtain rfl : pn = 1 := n6
  have hpt : ptsOf X Y 1 = [(4, [255, 0])] := hM.pts
  have hct := hM.carts 0 Nat.zero_lt_one
  have hpt' : (X.getD 0 pt0).cart.toNat = 4 ∧ Y.getD 0 [] = [255, 0] := by
    have e : ptsOf X Y 1 = [((X.getD 0 pt0).cart.toNat, Y.getD 0 [])] := rfl
    rw [e] at hpt
    simpa using hpt
  have HXY : Hid ((X.getD 0 pt0).cart = 4 ∧ Y.getD 0 [] = [255, 0]) := ⟨by omega, hpt'.2⟩
  have HPP : Hid (PSrc w5 po 1 pc X ∧ PS w5 1 X Y) := ⟨hM.src, hM.ps⟩
  have HB5 := hide (HB4.out.trans (b5.mono HB4.out.size))
  clear h5 hpt hct hpt' hM HG b5
  obtain ⟨g6, hg6⟩ : ∃ g6, w5.heap.size = g6 := ⟨_, rfl⟩
  obtain ⟨w6, hst, M6, b6, -⟩ := madeM w5 ⟨1, 0, 1, 2, 3, po, 1, pc⟩ g6 hg6
  have HM6 := hide M6
  have HB6 := hide b6
  clear M6 b6
  go_wp2_with fail
  refine wp_region_held_drew (S := fun wr => MBox wr g6 ⟨1, 0, 1, 2, 3, po, 1, pc⟩) (by kernel_rfl) (HM6.out.below (below_drew1 _)) (fun hHeld => ?_)
  refine wpAnyH_take (i := 0) (oi := { dst := some 22, op := Op.move (Operand.tmp 2), type := 27, pos := "law.go:23", after := #[], guard := none }) (v := ?_) rfl (by kernel_rfl) (by kernel_rfl) (by kernel_rfl) (fun _ _ _ h => h) (Or.inl ⟨by rfl, ?_⟩) (by assumption) ?_
  rotate_left
  · (intro w hSw; (try dsimp only at hSw); go_simp); first | done | with_reducible rfl
  simp only [Act.put, List.setIfInBounds_toArray, List.set_cons_zero, List.set_cons_succ]
  refine wpAnyH_take (i := 1) (oi := { dst := some 23, op := Op.binOp BinOp.eql 27 (Operand.tmp 22) (Operand.const (Value.int IntKind.i64 0)) 27, type := 4, pos := "law.go:23", after := #[{ on := 0, ground := Ground.data }], guard := none }) (v := ?_) rfl (by kernel_rfl) (by kernel_rfl) (by kernel_rfl) (fun _ _ _ h => h) (Or.inl ⟨by rfl, ?_⟩) (by assumption) ?_
  rotate_left
  · (intro w hSw; (try dsimp only at hSw); go_simp); first | done | with_reducible rfl
  simp only [Act.put, List.setIfInBounds_toArray, List.set_cons_zero, List.set_cons_succ]
  refine wpAnyH_take (i := 2) (oi := { dst := some 24, op := Op.move (Operand.tmp 23), type := 4, pos := "law.go:23", after := #[{ on := 1, ground := Ground.data }], guard := none }) (v := ?_) rfl (by kernel_rfl) (by kernel_rfl) (by kernel_rfl) (fun _ _ _ h => h) (Or.inl ⟨by rfl, ?_⟩) (by assumption) ?_
  rotate_left
  · (intro w hSw; (try dsimp only at hSw); go_simp); first | done | with_reducible rfl
  simp only [Act.put, List.setIfInBounds_toArray, List.set_cons_zero, List.set_cons_succ]
  refine wpAnyH_take (i := 3) (oi := { dst := some 25, op := Op.load 24 (Operand.tmp 3), type := 24, pos := "law.go:23", after := #[{ on := 2, ground := Ground.guard }], guard := some (2, true) }) (v := ?_) rfl (by kernel_rfl) (by kernel_rfl) (by kernel_rfl) (fun _ _ _ h => h) (Or.inl ⟨by rfl, ?_⟩) (by assumption) ?_
  rotate_left
  · (intro w hSw; (try dsimp only at hSw); have hl := run_ldM hSw; go_simp); first | done | with_reducible rfl
  simp only [Act.put, List.setIfInBounds_toArray, List.set_cons_zero, List.set_cons_succ]
  refine wpAnyH_ready (rs := [4]) (by kernel_rfl) (by simp) ?_
  refine AllReadyH.cons rfl (fun K hK => ?_) ?_
  rotate_left
  · exact AllReadyH.nil
  go_simp
  go_wp2_with fail
  refine (some_any _).mono ?_
  rintro r w7 ⟨q7, v7, rfl, P7, S7, b7⟩
  have M7 := (HM6.out.below (below_drew1 _)).below b7
  have b57 : Below w5.heap.size w5 w7 := HB6.out.trans (((below_drew1 _).trans b7).mono HB6.out.size)
  have HSm : Hid (Sm w7 1 po pc X (some ⟨q7, 0, none⟩) 1 [⟨4, some ⟨v7, 0, none⟩, 2, 2⟩] Y) := ⟨HPP.out.1.below b57, P7, HPP.out.2.below b57, fun k hk => by obtain rfl : k = 0 := (by omega); rw [HXY.out.2]; exact S7, fun k hk => by obtain rfl : k = 0 := (by omega); rw [HXY.out.1]; rfl⟩
  have HEq := hide (equal_true 1 0 1 2 3 po (some ⟨q7, 0, none⟩) 1 pc 1 X _ Y w7 HSm.out (fun k hk => by obtain rfl : k = 0 := (by omega); rw [HXY.out.2]; decide))
  have HM7 := hide M7
  have HX7 := hide ((below_drew1 w6).trans b7)
  clear P7 S7 b7 M7 b57
  refine hK.out _ _ HM7.out (fun hHeld => ?_)
  clear hK K
  refine wpAnyH_ready (rs := [5]) (by kernel_rfl) (by simp) ?_
  refine AllReadyH.cons rfl (fun K hK => ?_) ?_
  rotate_left
  · exact AllReadyH.nil
  go_simp
  go_wp2_with fail
  refine HEq.out.mono ?_
  rintro r w8 ⟨rfl, b8⟩
  have HX := hide (HX7.out.trans (b8.mono HX7.out.size))
  have HM8 := hide (HM7.out.below b8)
  clear b8
  refine hK.out _ _ HM8.out (fun hHeld => ?_)
  clear hK K
  refine wpAnyH_take (i := 6) (oi := { dst := some 28, op := Op.pick (Operand.tmp 24) (Operand.tmp 27) (Operand.const (Value.bool false)), type := 4, pos := "law.go:23", after := #[{ on := 2, ground := Ground.data }, { on := 5, ground := Ground.data }], guard := none }) (v := ?_) rfl (by kernel_rfl) (by kernel_rfl) (by kernel_rfl) (fun _ _ _ h => h) (Or.inl ⟨by rfl, ?_⟩) (by assumption) ?_
  rotate_left
  · (intro w hSw; (try dsimp only at hSw); go_simp); first | done | with_reducible rfl
  simp only [Act.put, List.setIfInBounds_toArray, List.set_cons_zero, List.set_cons_succ]
  refine wpAnyH_take (i := 7) (oi := { dst := some 0, op := Op.assign (Operand.tmp 28), type := 4, pos := "law.go:23", after := #[{ on := 6, ground := Ground.data }, { on := 5, ground := Ground.chain }, { on := 0, ground := Ground.phase }, { on := 1, ground := Ground.phase }, { on := 2, ground := Ground.phase }, { on := 3, ground := Ground.phase }, { on := 4, ground := Ground.phase }, { on := 5, ground := Ground.phase }, { on := 6, ground := Ground.phase }], guard := none }) (v := ?_) rfl (by kernel_rfl) (by kernel_rfl) (by kernel_rfl) (fun _ _ _ h => h) (Or.inl ⟨by rfl, ?_⟩) (by assumption) ?_
  rotate_left
  · (intro w hSw; (try dsimp only at hSw); go_simp); first | done | with_reducible rfl
  simp only [Act.put, List.setIfInBounds_toArray, List.set_cons_zero]
  refine wpAnyH_done (by kernel_rfl) ?_ _
  clear hHeld
  go_wp2_with fail
  go_ret
  exact ⟨rfl, HB5.out.trans ((HB6.out.trans (HX.out.mono HB6.out.size)).mono HB5.out.size)⟩
end Go.Proofs.Ytpnlfljndkfplaa
