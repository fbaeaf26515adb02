/- ORs -/
import Derived.Test.YtooinnhjeloocaaGreatLs41
import Derived.Test.YtooinnhjeloocaaGreatLs34
import Derived.Test.YtooinnhjeloocaaGreatLs31
import Derived.Test.YtooinnhjeloocaaGreatLs18
namespace Go.Proofs.YtooinnhjeloocaaGreat
open Go.RowKit
attribute [local go_sem ↓] ldP_eq stP_eq ldD_eq stD_eq K.ld28_eq K.st28_eq
attribute [local go_sem] cells_PV PC_size K.zero_EC K.cells_EV K.EC_size K.fold_EC
variable {w w' w2 W W' : World} {g : Nat}

theorem enAt_dot {e : K.En} {a : Addr} (h : K.EnAt W a e) : RnAt W a ⟨e.rep, e.num⟩ := ⟨h.c0, h.c1⟩
set_option maxRecDepth 100000 in
set_option maxHeartbeats 3200000 in
theorem refSide_any (ao : Option Addr) (n cap : Nat) (L : List K.En) (p : Pv) (ins : Bool) (w : World) (hS : K.ESrc w ao n cap L) (hP : PSrc w p) :
    Calls Tryz.prog 27 #[.slice ao n cap, PV p, .bool ins] w fun x w' => PtA w w' x L p.P ins := by
  have b1 := below_new w (.cells (PC p) 26)
  have x1 := pbox_new w p
  obtain ⟨w1, hw1⟩ : ∃ w1, w.alloc (.cells (PC p) 26) = w1 := ⟨_, rfl⟩
  obtain ⟨g1, hg1⟩ : ∃ g1, w.heap.size = g1 := ⟨_, rfl⟩
  rw [hw1] at b1 x1
  rw [hg1] at x1
  have HB := hide b1
  have HX : Hid (PBox w1 g1 p ∧ PSrc w1 p ∧ K.ESrc w1 ao n cap L) := ⟨x1, hP.below b1, hS.below b1⟩
  have HL : Hid (L.length = n) := hS.1
  have hnb : n ≤ 3518437208883 := hS.2.2.2.2
  clear b1 x1 hS hP
  go_enter Tryz.func27, Tryz.ntmps27
  go_wp2_with fail
  clear hw1 hg1
  refine (K.refCheckL_any ao n cap L _ HX.out.2.2).mono ?_
  rintro x w3 ⟨rfl, b3⟩
  have HB3 := hide (HB.out.trans (b3.mono HB.out.size))
  have HX3 : Hid (PBox w3 g1 p ∧ PSrc w3 p ∧ K.ESrc w3 ao n cap L) := ⟨HX.out.1.below b3, HX.out.2.1.below b3, HX.out.2.2.below b3⟩
  clear b3 HX HB
  rcases K.chk_cases L with hc | hc
  rotate_left
  · have HE : Hid (PtA w w3 (.returned (.tuple #[.slice none 0 0, .int .i64 1])) L p.P ins) := .inr ⟨(fun h => by rw [hc] at h; exact absurd h.1 (by decide)), _, _, _, rfl, K.ESrc.none _, HB3.out, fun ad h => by cases h⟩
    rw [hc]
    clear hc
    go_wp2_with fail
    go_ret2
    exact HE.out
  · rw [hc]
    have l3 := run_ldP HX3.out.1.at
    have HC := hide hc
    clear hc
    go_wp2_with fail
    refine (refIsNorm_any p _ HX3.out.2.1).mono ?_
    rintro x w4 ⟨b, rfl, hb, b4⟩
    have HB4 := hide (HB3.out.trans (b4.mono HB3.out.size))
    have HX4 : Hid (PBox w4 g1 p ∧ PSrc w4 p ∧ K.ESrc w4 ao n cap L) := ⟨HX3.out.1.below b4, HX3.out.2.1.below b4, HX3.out.2.2.below b4⟩
    have HI : Hid (BIf b (InForm p.P)) := hb
    clear b4 HX3 HB3 l3 hb
    cases b with
    | false =>
      have HE : Hid (PtA w w4 (.returned (.tuple #[.slice none 0 0, .int .i64 1])) L p.P ins) := .inr ⟨(fun h => by have := HI.out.2 h.2; cases this), _, _, _, rfl, K.ESrc.none _, HB4.out, fun ad h => by cases h⟩
      go_wp2_with fail
      go_ret2
      exact HE.out
    | true =>
      have HIn : Hid (InForm p.P) := HI.out.1 rfl
      clear HI
      go_wp2_with fail
      go_loopw [8, 9] (fun v i wr => ∃ (k : Nat) (ap : Option Addr) (c : Nat), k ≤ n ∧ v = .slice ap ((L.take k).filter (pkB p.P ins)).length c ∧ i = .int .i64 (k : Int) ∧ Hid (K.OwnE w4.heap.size w4.heap.size w4 wr ap c ((L.take k).filter (pkB p.P ins)))) (fun _ i _ => n - (intOf i).toNat)
      case atStart => exact ⟨0, none, 0, Nat.zero_le _, rfl, rfl, K.OwnE.nil (Below.refl _ _) (Nat.le_refl _) (Nat.le_refl _)⟩
      case round =>
        obtain ⟨k, ap, c, hk, rfl, rfl, HO⟩ := hrel
        rename World => wr
        obtain ⟨acc, Hacc⟩ : ∃ acc, Hid ((L.take k).filter (pkB p.P ins) = acc) := ⟨_, rfl⟩
        have hal : acc.length ≤ k := by
          rw [← Hacc.out]; have h1 := List.length_filter_le (pkB p.P ins) (L.take k); have h2 := List.length_take_le k L; omega
        rw [Hacc.out] at HO ⊢
        obtain ⟨an, han⟩ : ∃ an, acc.length = an := ⟨_, rfl⟩
        rw [han] at hal ⊢
        by_cases hlt : k < n
        · have hlti : (k : Int) < (n : Int) := by omega
          obtain ⟨ad, hao, A0⟩ := (HX4.out.2.2.below HO.out.below).at k hlt
          subst hao
          obtain ⟨e, He⟩ : ∃ e, Hid (L.getD k K.en0 = e) := ⟨_, rfl⟩
          rw [He.out] at A0
          have HT := hide (K.take_snoc L k (by rw [HL.out]; exact hlt))
          rw [He.out] at HT
          have HA0 := hide A0
          have HSt : Hid (∀ W, Below wr.heap.size wr W → (ldP (.pointer (some ⟨g1, 0, none⟩))).run Tryz.prog W = .ok (PV p) W ∧ (ldD (.pointer (some (ad.add (k * 4))))).run Tryz.prog W = .ok (RV ⟨e.rep, e.num⟩) W) := fun W hW =>
            ⟨run_ldP ((HX4.out.1.below HO.out.below).below hW).at, run_ldD (enAt_dot (HA0.out.on hW))⟩
          have Hlt := hide hlt
          have Han := hide han
          clear A0 hlt hk han
          go_upto_region 7 with fail
          refine wp_region_held_drew (S := fun W => (ldP (.pointer (some ⟨g1, 0, none⟩))).run Tryz.prog W = .ok (PV p) W ∧ (ldD (.pointer (some (ad.add (k * 4))))).run Tryz.prog W = .ok (RV ⟨e.rep, e.num⟩) W) (by kernel_rfl) (HSt.out _ (below_drew1 wr)) (fun hHeld => ?_)
          refine wpAnyH_take (i := 0) (oi := { dst := some 24, op := Op.load 26 (Operand.tmp 4), type := 26, pos := "ref.go:197", after := #[], guard := none }) (v := ?_) rfl (by kernel_rfl) (by kernel_rfl) (by kernel_rfl) (fun _ _ _ h => h) (Or.inl ⟨by rfl, ?_⟩) (by assumption) ?_
          rotate_left
          · (intro w hSw; (try dsimp only at hSw); go_simp); first | done | with_reducible rfl
          simp only [Act.put, List.setIfInBounds_toArray, List.set_cons_zero, List.set_cons_succ]
          refine wpAnyH_take (i := 1) (oi := { dst := some 25, op := Op.move (Operand.tmp 0), type := 22, pos := "ref.go:197", after := #[], guard := none }) (v := ?_) rfl (by kernel_rfl) (by kernel_rfl) (by kernel_rfl) (fun _ _ _ h => h) (Or.inl ⟨by rfl, ?_⟩) (by assumption) ?_
          rotate_left
          · (intro w hSw; (try dsimp only at hSw); go_simp); first | done | with_reducible rfl
          simp only [Act.put, List.setIfInBounds_toArray, List.set_cons_zero, List.set_cons_succ]
          refine wpAnyH_take (i := 2) (oi := { dst := some 26, op := Op.move (Operand.tmp 9), type := 3, pos := "ref.go:197", after := #[], guard := none }) (v := ?_) rfl (by kernel_rfl) (by kernel_rfl) (by kernel_rfl) (fun _ _ _ h => h) (Or.inl ⟨by rfl, ?_⟩) (by assumption) ?_
          rotate_left
          · (intro w hSw; (try dsimp only at hSw); go_simp); first | done | with_reducible rfl
          simp only [Act.put, List.setIfInBounds_toArray, List.set_cons_zero, List.set_cons_succ]
          refine wpAnyH_take (i := 3) (oi := { dst := some 27, op := Op.indexAddr 22 (Operand.tmp 25) (Operand.tmp 26), type := 0, pos := "ref.go:197", after := #[{ on := 1, ground := Ground.data }, { on := 2, ground := Ground.data }], guard := none }) (v := ?_) rfl (by kernel_rfl) (by kernel_rfl) (by kernel_rfl) (fun _ _ _ h => h) (Or.inl ⟨by rfl, ?_⟩) (by assumption) ?_
          rotate_left
          · (intro w hSw; (try dsimp only at hSw); go_simp); first | done | with_reducible rfl
          simp only [Act.put, List.setIfInBounds_toArray, List.set_cons_zero, List.set_cons_succ]
          refine wpAnyH_take (i := 4) (oi := { dst := some 28, op := Op.fieldAddr 36 (Operand.tmp 27) 0, type := 0, pos := "ref.go:197", after := #[{ on := 3, ground := Ground.data }], guard := none }) (v := ?_) rfl (by kernel_rfl) (by kernel_rfl) (by kernel_rfl) (fun _ _ _ h => h) (Or.inl ⟨by rfl, ?_⟩) (by assumption) ?_
          rotate_left
          · (intro w hSw; (try dsimp only at hSw); go_simp); first | done | with_reducible rfl
          simp only [Act.put, List.setIfInBounds_toArray, List.set_cons_zero, List.set_cons_succ]
          refine wpAnyH_take (i := 5) (oi := { dst := some 29, op := Op.load 28 (Operand.tmp 28), type := 28, pos := "ref.go:197", after := #[{ on := 4, ground := Ground.data }], guard := none }) (v := ?_) rfl (by kernel_rfl) (by kernel_rfl) (by kernel_rfl) (fun _ _ _ h => h) (Or.inl ⟨by rfl, ?_⟩) (by assumption) ?_
          rotate_left
          · (intro w hSw; (try dsimp only at hSw); go_simp); first | done | with_reducible rfl
          simp only [Act.put, List.setIfInBounds_toArray, List.set_cons_zero, List.set_cons_succ]
          refine wpAnyH_take (i := 7) (oi := { dst := some 31, op := Op.move (Operand.tmp 2), type := 4, pos := "ref.go:197", after := #[], guard := none }) (v := ?_) rfl (by kernel_rfl) (by kernel_rfl) (by kernel_rfl) (fun _ _ _ h => h) (Or.inl ⟨by rfl, ?_⟩) (by assumption) ?_
          rotate_left
          · (intro w hSw; (try dsimp only at hSw); go_simp); first | done | with_reducible rfl
          simp only [Act.put, List.setIfInBounds_toArray, List.set_cons_zero, List.set_cons_succ]
          refine wpAnyH_ready (rs := [6]) (by kernel_rfl) (by simp) ?_
          refine AllReadyH.cons rfl (fun K hK => ?_) ?_
          rotate_left
          · exact AllReadyH.nil
          go_simp
          go_wp2_with fail
          refine (refHas_any p ⟨e.rep, e.num⟩ _ ((HX4.out.2.1.below HO.out.below).below (below_drew1 wr))).mono ?_
          rintro x w6 ⟨b, rfl, hb, b6⟩
          have hB6 : Below wr.heap.size wr w6 := (below_drew1 wr).trans b6
          have HO6 := hide (HO.out.later hB6)
          have HA6 := hide (HA0.out.on hB6)
          have HR : Hid (pkB p.P ins e = (b == ins)) := by
            show _ = _
            unfold pkB
            congr 1
            have h1 := inB_iff p.P e
            have h2 := hb.out
            cases hx : inB p.P e <;> cases b
            · rfl
            · rw [hx] at h1; exact absurd (h1.2 (h2.1 rfl)) (by simp)
            · rw [hx] at h1; have := h2.2 (h1.1 rfl); cases this
            · rfl
          refine hK.out _ _ (HSt.out _ hB6) (fun hHeld => ?_)
          clear hK K b6 hB6 hb
          refine wpAnyH_take (i := 8) (oi := { dst := some 32, op := Op.binOp BinOp.eql 4 (Operand.tmp 30) (Operand.tmp 31) 4, type := 4, pos := "ref.go:197", after := #[{ on := 6, ground := Ground.data }, { on := 7, ground := Ground.data }], guard := none }) (v := ?_) rfl (by kernel_rfl) (by kernel_rfl) (by kernel_rfl) (fun _ _ _ h => h) (Or.inl ⟨by rfl, ?_⟩) (by assumption) ?_
          rotate_left
          · (intro w hSw; (try dsimp only at hSw); go_simp); first | done | with_reducible rfl
          simp only [Act.put, List.setIfInBounds_toArray, List.set_cons_zero, List.set_cons_succ]
          refine wpAnyH_done (by kernel_rfl) ?_ _
          clear hHeld
          obtain ⟨q, Hq⟩ : ∃ q, Hid ((b == ins) = q) := ⟨_, rfl⟩
          rw [Hq.out]
          rw [Hq.out] at HR
          cases q with
          | false =>
            have HN : Hid ((L.take (k + 1)).filter (pkB p.P ins) = acc) := by show _ = _; rw [HT.out, List.filter_append, Hacc.out]; simp [HR.out]
            go_wp2_with fail
            go_roundw
            case rel => exact ⟨k + 1, ap, c, Hlt.out, by rw [HN.out, Han.out], by simp, by rw [HN.out]; exact HO6⟩
            case measure => simp [intOf]; have := Hlt.out; omega
          | true =>
            have HN : Hid ((L.take (k + 1)).filter (pkB p.P ins) = acc ++ [e]) := by show _ = _; rw [HT.out, List.filter_append, Hacc.out]; simp [HR.out]
            have l6 := K.run_ld28 HA6.out
            go_wp2_with (at_builtin; refine HO6.out.append e _ rfl (by have := Han.out; have := Hlt.out; omega) rfl (.tmp 33) (.tmp 38) rfl an Han.out rfl rfl ?_; intro g7 c7 w7 O7 hk7; have HO7 := hide O7; clear O7 hk7)
            clear l6
            go_roundw
            case rel => exact ⟨k + 1, some ⟨g7, 0, none⟩, c7, Hlt.out, by rw [HN.out, List.length_append, Han.out]; rfl, by simp, by rw [HN.out]; exact HO7⟩
            case measure => simp [intOf]; have := Hlt.out; omega
        · have hlti : ¬ (k : Int) < (n : Int) := by omega
          have HE : Hid (PtA w wr (.returned (.tuple #[.slice ap an c, .int .i64 0])) L p.P ins) := by
            have h1 := HO.out.src (fun e he => by rw [← Hacc.out] at he; exact HX4.out.2.2.2.2.2.1 e (List.mem_of_mem_take (List.mem_filter.1 he).1)) (by omega)
            rw [han] at h1
            refine .inl ⟨HC.out, HIn.out, ap, an, c, rfl, ?_, HB4.out.trans (HO.out.below.mono HB4.out.size), fun ad h => Nat.le_trans HB4.out.size (h1.2 ad h)⟩
            have e : acc = L.filter (pkB p.P ins) := by rw [← Hacc.out, List.take_of_length_le (by have := HL.out; omega)]
            rw [← e]
            exact h1.1
          clear hlt
          go_wp2_with fail
          go_ret2
          exact HE.out
set_option maxRecDepth 100000 in
theorem refInside_any (ao : Option Addr) (n cap : Nat) (L : List K.En) (p : Pv) (w : World) (hS : K.ESrc w ao n cap L) (hP : PSrc w p) :
    Calls Tryz.prog 14 #[.slice ao n cap, PV p] w fun x w' => PtA w w' x L p.P true := by
  have b1 := below_new w (.cells (PC p) 26)
  have x1 := pbox_new w p
  obtain ⟨w1, hw1⟩ : ∃ w1, w.alloc (.cells (PC p) 26) = w1 := ⟨_, rfl⟩
  obtain ⟨g1, hg1⟩ : ∃ g1, w.heap.size = g1 := ⟨_, rfl⟩
  rw [hw1] at b1 x1
  rw [hg1] at x1
  have l1 := run_ldP x1.at
  have HB := hide b1
  have HC := hide (refSide_any ao n cap L p true w1 (hS.below b1) (hP.below b1))
  clear b1 x1 hS hP
  go_enter Tryz.func14, Tryz.ntmps14
  go_wp2_with fail
  clear hw1 hg1
  refine HC.out.mono ?_
  rintro x w2 hx
  obtain ⟨bo, m, c, er, rfl, hE⟩ := (PtA.pre HB.out hx).shape
  have HE := hide hE
  clear hx hE
  go_wp2_with fail
  go_ret2
  exact HE.out
set_option maxRecDepth 100000 in
theorem refOutside_any (ao : Option Addr) (n cap : Nat) (L : List K.En) (p : Pv) (w : World) (hS : K.ESrc w ao n cap L) (hP : PSrc w p) :
    Calls Tryz.prog 15 #[.slice ao n cap, PV p] w fun x w' => PtA w w' x L p.P false := by
  have b1 := below_new w (.cells (PC p) 26)
  have x1 := pbox_new w p
  obtain ⟨w1, hw1⟩ : ∃ w1, w.alloc (.cells (PC p) 26) = w1 := ⟨_, rfl⟩
  obtain ⟨g1, hg1⟩ : ∃ g1, w.heap.size = g1 := ⟨_, rfl⟩
  rw [hw1] at b1 x1
  rw [hg1] at x1
  have l1 := run_ldP x1.at
  have HB := hide b1
  have HC := hide (refSide_any ao n cap L p false w1 (hS.below b1) (hP.below b1))
  clear b1 x1 hS hP
  go_enter Tryz.func15, Tryz.ntmps15
  go_wp2_with fail
  clear hw1 hg1
  refine HC.out.mono ?_
  rintro x w2 hx
  obtain ⟨bo, m, c, er, rfl, hE⟩ := (PtA.pre HB.out hx).shape
  have HE := hide hE
  clear hx hE
  go_wp2_with fail
  go_ret2
  exact HE.out
end Go.Proofs.YtooinnhjeloocaaGreat
