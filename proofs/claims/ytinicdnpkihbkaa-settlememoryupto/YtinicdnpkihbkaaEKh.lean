/- settle.behind. -/
import Derived.Test.YtinicdnpkihbkaaEKt
namespace Go.Proofs.Ytinicdnpkihbkaa
open Go.RowKit
variable {w w' w2 wr : World} {g : Nat} {K J : Nat → Nat → Bool}

/-- a talk along p -/
def kstep (n : Nat) (K : Nat → Nat → Bool) (p : Pr) : Nat → Nat → Bool := if goodB n p.f p.t = true then kup K p.t.toNat (K p.f.toNat) 16 else K
def k0 (k : Nat) : Nat → Nat → Bool := fun r o => decide (r = o ∧ r < k)
/-- what each knows behind the talks -/
def knw (n : Nat) (L : List Pr) : Nat → Nat → Bool := L.foldl (kstep n) (k0 n)
theorem k0_step (k : Nat) : kset (k0 k) k k true = k0 (k + 1) := by
  funext r o
  unfold kset k0
  by_cases h : r = k ∧ o = k
  · obtain ⟨rfl, rfl⟩ := h
    simp
  · rw [if_neg h]
    congr 1
    apply propext
    omega
theorem knw_next (n : Nat) (L : List Pr) (k : Nat) (h : k < L.length) : knw n (L.take (k + 1)) = kstep n (knw n (L.take k)) (L.getD k p0) := by
  unfold knw
  rw [List.take_succ_eq_append_getElem h, List.foldl_append]
  simp [List.getD, h]
theorem good_nat {n : Nat} {f t : Int} (h : goodB n f t = true) (_ : n ≤ 16) : ∃ a b : Nat, f = (a : Int) ∧ t = (b : Int) ∧ a < n ∧ b < n ∧ a ≠ b := by
  unfold goodB at h
  simp only [decide_eq_true_eq] at h
  exact ⟨f.toNat, t.toNat, by omega, by omega, by omega, by omega, by omega⟩
structure BH (w wr : World) (g : Nat) (K : Nat → Nat → Bool) : Prop where
  k : KBx wr g K
  r : KBx wr w.heap.size (fun _ _ => false)
  bel : Below w.heap.size w wr
  pos : g = w.heap.size + 1
theorem BH.below (h : BH w wr g K) (hb : Below wr.heap.size wr w2) : BH w w2 g K := ⟨h.k.below hb, h.r.below hb, h.bel.trans (hb.mono h.bel.size), h.pos⟩
theorem BH.fr (h : BH w wr g K) (hk : KBx w2 g J) (hf : Fr wr w2 g) : BH w w2 g J :=
  ⟨hk, h.r.keep (hf.block _ h.r.lt (fun e => by have := Option.some.inj e; have := h.pos; omega)), h.bel.trans ⟨hf.os, hf.tape, hf.output, hf.size, fun i hi => hf.block i (Nat.lt_of_lt_of_le hi h.bel.size) (fun e => by have := Option.some.inj e; have := h.pos; omega)⟩, h.pos⟩
theorem BH.begin (w : World) : BH w ((w.alloc (.cells (kA fun _ _ => false) 55)).alloc (.cells (kA fun _ _ => false) 55)) (w.heap.size + 1) (fun _ _ => false) := by
  have h1 := KBx_new w (fun _ _ => false)
  have b1 := below_new w (.cells (kA fun _ _ => false) 55)
  have b2 := below_new (w.alloc (.cells (kA fun _ _ => false) 55)) (.cells (kA fun _ _ => false) 55)
  have h2 := KBx_new (w.alloc (.cells (kA fun _ _ => false) 55)) (fun _ _ => false)
  rw [World.size_alloc] at h2
  exact ⟨h2, h1.below b2, b1.trans (b2.mono b1.size), rfl⟩
attribute [local go_sem ↓] ldS_eq ldK_eq stK_eq ldP_eq stP_eq
set_option maxRecDepth 100000 in
theorem behind_any (n : Nat) (hn : n ≤ 16) (ao : Option Addr) (m c : Nat) (L : List Pr) (w : World) (S : PSrc w ao m c L) (hm : m ≤ 140737488355328) : Calls Try.prog 24 #[.int .i64 n, .slice ao m c] w fun e w' => e = .returned (.agg (kA (knw n L))) ∧ Below w.heap.size w w' := by
  have HL : Hid (L.length = m) := S.len
  have HS := hide S
  have hz := zeroK
  have HB0 := hide (BH.begin w)
  clear S
  obtain ⟨g, hg⟩ : ∃ g, w.heap.size + 1 = g := ⟨_, rfl⟩
  rw [hg] at HB0
  go_enter Try.func24, Try.ntmps24
  go_wp2_with fail
  clear hz
  go_loopw [10] (fun i wr => ∃ k : Nat, k ≤ n ∧ i = .int .i64 k ∧ Hid (BH w wr g (k0 k))) (fun i _ => n - (intOf i).toNat)
  case atStart => exact ⟨0, Nat.zero_le _, rfl, by show BH _ _ _ _; exact HB0.out.fr (HB0.out.k.congr (fun r o _ _ => by unfold k0; simp)) (Fr.refl _ _)⟩
  case round =>
    clear HB0
    obtain ⟨k, hk, rfl, HB⟩ := hrel
    by_cases hlt : k < n
    · have hlt' : (k : Int) < 16 := by omega
      have c0 := HB.out.k.cell k k (by omega) (by omega)
      have hfz := HB.out.k.frozen (k * 16 + k)
      have HB2 := hide (HB.out.fr (HB.out.k.set k k (by omega) (by omega) true) (Fr.setCell wr g (k * 16 + k) (.bool true)))
      rw [k0_step] at HB2
      clear HB
      go_wp2_with fail
      go_roundw
      case rel => exact ⟨k + 1, by omega, by go_num, HB2⟩
      case measure => simp [intOf]; omega
    · obtain rfl : k = n := by omega
      go_wp2_with fail
      go_loopw [20] (fun i wr => ∃ j : Nat, j ≤ m ∧ i = .int .i64 j ∧ Hid (BH w wr g (knw k (L.take j)))) (fun i _ => m - (intOf i).toNat)
      case atStart => exact ⟨0, Nat.zero_le _, rfl, HB⟩
      case round =>
        clear HB
        obtain ⟨j, hj, rfl, HB⟩ := hrel
        by_cases hl2 : j < m
        · obtain ⟨ad, rfl, x⟩ := (HS.out.below HB.out.bel).at j hl2
          have HT := hide (knw_next k L j (by have := HL.out; omega))
          obtain ⟨q, hq⟩ : ∃ q, L.getD j p0 = q := ⟨_, rfl⟩
          rw [hq] at x HT
          obtain ⟨f, t⟩ := q
          have x0 : (ldP (.pointer (some (ad.add (j * 2))))).run Try.prog wr = .ok (.agg #[.int .i64 f, .int .i64 t]) wr := run_laP x
          obtain ⟨w3, hst, hbx, hbl, -⟩ := madeP wr ⟨f, t⟩ wr.heap.size rfl
          have hst' : (stP (.pointer (some ⟨wr.heap.size, 0, none⟩)) (.agg #[.int .i64 f, .int .i64 t])).run Try.prog (wr.alloc (.cells #[.int .i64 0, .int .i64 0] 28)) = .ok () w3 := hst
          have hld : (ldP (.pointer (some ⟨wr.heap.size, 0, none⟩))).run Try.prog w3 = .ok (.agg #[.int .i64 f, .int .i64 t]) w3 := run_ldP hbx
          have HX := hide hbx
          have HB3 := hide (HB.out.below hbl)
          have HGP : Hid (g < wr.heap.size) := HB.out.k.lt
          clear hst hbx hbl HB hq x
          by_cases hgd : goodB k f t = true
          · have HGo : Hid (∀ w, Calls Try.prog 28 #[.agg #[.int .i64 f, .int .i64 t], .int .i64 k] w fun e w' => e = .returned (.bool true) ∧ Below w.heap.size w w') := fun w => by have := isGood_any k f t w; rw [hgd] at this; exact this
            obtain ⟨a, b, rfl, rfl, ha, hb, hab⟩ := good_nat hgd hn
            have HT2 : Hid (knw k (L.take (j + 1)) = kup (knw k (L.take j)) b (knw k (L.take j) a) 16) := by show _ = _; rw [HT.out, kstep, if_pos hgd]; rfl
            obtain ⟨M, hM⟩ : ∃ M, knw k (L.take j) = M := ⟨_, rfl⟩
            rw [hM] at HT2 HB3
            have ha' : (a : Int) < 16 := by omega
            have hb' : (b : Int) < 16 := by omega
            clear HT hgd hM
            obtain ⟨gp, hgp⟩ : ∃ gp, wr.heap.size = gp := ⟨_, rfl⟩
            rw [hgp] at HX hld HGP hst'
            go_wp2_with (go_at_call 28; refine (HGo.out _).mono ?_; rintro e w4 ⟨rfl, b4⟩; have HB4 := hide (HB3.out.below b4); have HX4 := hide (HX.out.below b4); clear b4 HB3 HX)
            have HB5 := hide (HB4.out.below (below_drew1 _))
            have HX5 := hide (HX4.out.below (below_drew1 _))
            clear HB4 HX4
            refine wp_region_held_drew (S := fun W => W.cell? ⟨gp, 0, none⟩ = some (.int .i64 (a : Int)) ∧ W.cell? ⟨gp, 1, none⟩ = some (.int .i64 (b : Int))) (by kernel_rfl) (⟨HX5.out.c0, HX5.out.c1⟩) (fun hHeld => ?_)
            refine wpAnyH_take (i := 0) (oi := { dst := some 27, op := Op.fieldAddr 28 (Operand.tmp 8) 1, type := 0, pos := "pairs.go:67", after := #[], guard := none }) (v := ?_) rfl (by kernel_rfl) (by kernel_rfl) (by kernel_rfl) (fun _ _ _ h => h) (Or.inl ⟨by rfl, ?_⟩) (by assumption) ?_
            rotate_left
            · (intro w hSw; (try dsimp only at hSw); go_simp); first | done | with_reducible rfl
            simp only [Act.put, List.setIfInBounds_toArray, List.set_cons_zero, List.set_cons_succ]
            refine wpAnyH_take (i := 1) (oi := { dst := some 28, op := Op.load 3 (Operand.tmp 27), type := 3, pos := "pairs.go:67", after := #[{ on := 0, ground := Ground.data }], guard := none }) (v := ?_) rfl (by kernel_rfl) (by kernel_rfl) (by kernel_rfl) (fun _ _ _ h => h) (Or.inl ⟨by rfl, ?_⟩) (by assumption) ?_
            rotate_left
            · (intro w hSw; (try dsimp only at hSw); go_simp); first | done | with_reducible rfl
            simp only [Act.put, List.setIfInBounds_toArray, List.set_cons_zero, List.set_cons_succ]
            refine wpAnyH_take (i := 2) (oi := { dst := some 29, op := Op.indexAddr 55 (Operand.tmp 5) (Operand.tmp 28), type := 0, pos := "pairs.go:67", after := #[{ on := 1, ground := Ground.data }], guard := none }) (v := ?_) rfl (by kernel_rfl) (by kernel_rfl) (by kernel_rfl) (fun _ _ _ h => h) (Or.inl ⟨by rfl, ?_⟩) (by assumption) ?_
            rotate_left
            · (intro w hSw; (try dsimp only at hSw); go_simp); first | done | with_reducible rfl
            simp only [Act.put, List.setIfInBounds_toArray, List.set_cons_zero, List.set_cons_succ]
            refine wpAnyH_take (i := 3) (oi := { dst := some 30, op := Op.fieldAddr 28 (Operand.tmp 8) 0, type := 0, pos := "pairs.go:67", after := #[], guard := none }) (v := ?_) rfl (by kernel_rfl) (by kernel_rfl) (by kernel_rfl) (fun _ _ _ h => h) (Or.inl ⟨by rfl, ?_⟩) (by assumption) ?_
            rotate_left
            · (intro w hSw; (try dsimp only at hSw); go_simp); first | done | with_reducible rfl
            simp only [Act.put, List.setIfInBounds_toArray, List.set_cons_zero, List.set_cons_succ]
            refine wpAnyH_take (i := 4) (oi := { dst := some 31, op := Op.load 3 (Operand.tmp 30), type := 3, pos := "pairs.go:67", after := #[{ on := 3, ground := Ground.data }], guard := none }) (v := ?_) rfl (by kernel_rfl) (by kernel_rfl) (by kernel_rfl) (fun _ _ _ h => h) (Or.inl ⟨by rfl, ?_⟩) (by assumption) ?_
            rotate_left
            · (intro w hSw; (try dsimp only at hSw); go_simp); first | done | with_reducible rfl
            simp only [Act.put, List.setIfInBounds_toArray, List.set_cons_zero, List.set_cons_succ]
            refine wpAnyH_take (i := 5) (oi := { dst := some 32, op := Op.indexAddr 55 (Operand.tmp 5) (Operand.tmp 31), type := 0, pos := "pairs.go:67", after := #[{ on := 4, ground := Ground.data }], guard := none }) (v := ?_) rfl (by kernel_rfl) (by kernel_rfl) (by kernel_rfl) (fun _ _ _ h => h) (Or.inl ⟨by rfl, ?_⟩) (by assumption) ?_
            rotate_left
            · (intro w hSw; (try dsimp only at hSw); go_simp); first | done | with_reducible rfl
            simp only [Act.put, List.setIfInBounds_toArray, List.set_cons_zero, List.set_cons_succ]
            have hlS := run_ldS HB5.out.k a (by omega)
            refine wpAnyH_ready (rs := [6]) (by kernel_rfl) (by simp) ?_
            refine AllReadyH.cons rfl (fun K hK => ?_) ?_
            rotate_left
            · exact AllReadyH.nil
            go_simp
            refine hK.out _ _ ⟨HX5.out.c0, HX5.out.c1⟩ (fun hHeld => ?_)
            clear hK K
            refine wpAnyH_ready (rs := [7]) (by kernel_rfl) (by simp) ?_
            refine AllReadyH.cons rfl (fun K hK => ?_) ?_
            rotate_left
            · exact AllReadyH.nil
            go_simp
            go_wp2_with fail
            refine (take_any b (by omega) (M a) _ HB5.out.k).mono ?_
            rintro e w6 ⟨rfl, K6, F6⟩
            have HB6 := hide (HB5.out.fr K6 F6)
            have hne : some gp ≠ some g := by have := HGP.out; simp; omega
            refine hK.out _ _ ⟨by rw [World.cell?_of_block (F6.block gp HX5.out.lt hne)]; exact HX5.out.c0, by rw [World.cell?_of_block (F6.block gp HX5.out.lt hne)]; exact HX5.out.c1⟩ (fun hHeld => ?_)
            clear hK K F6 K6 hlS
            refine wpAnyH_done (by kernel_rfl) ?_ _
            clear hHeld
            go_wp2_with fail
            go_roundw
            case rel => exact ⟨j + 1, by omega, by go_num, by show BH _ _ _ _; rw [HT2.out]; exact HB6.out⟩
            case measure => simp [intOf]; omega
          · have HGo : Hid (∀ w, Calls Try.prog 28 #[.agg #[.int .i64 f, .int .i64 t], .int .i64 k] w fun e w' => e = .returned (.bool false) ∧ Below w.heap.size w w') := fun w => by have := isGood_any k f t w; rw [Bool.not_eq_true _ |>.mp hgd] at this; exact this
            have HT2 : Hid (knw k (L.take (j + 1)) = knw k (L.take j)) := by show _ = _; rw [HT.out, kstep, if_neg hgd]
            clear HT hgd
            go_wp2_with (go_at_call 28; refine (HGo.out _).mono ?_; rintro e w4 ⟨rfl, b4⟩; have HB4 := hide (HB3.out.below b4); clear b4 HB3)
            go_roundw
            case rel => exact ⟨j + 1, by omega, by go_num, by show BH _ _ _ _; rw [HT2.out]; exact HB4.out⟩
            case measure => simp [intOf]; omega
        · obtain rfl : j = m := by omega
          have HE : Hid (L.take j = L) := List.take_of_length_le (by have := HL.out; omega)
          rw [HE.out] at HB
          have hldK := run_ldK HB.out.k
          have hstK := run_stK (J := knw k L) HB.out.r
          have HR := hide (HB.out.r.setRow (J := knw k L))
          have HBe := hide (below_setRow (cs := kA (knw k L)) HB.out.bel (Nat.le_refl _))
          clear HE HB
          go_wp2_with fail
          exact bodyPost_ret (v := .agg (kA (knw k L))) (res1K Try.results24 rfl HR.out) rfl ⟨rfl, HBe.out⟩
end Go.Proofs.Ytinicdnpkihbkaa
