/- script.Plain. -/
import Derived.Test.YtocfbanbphhhbaaDoorKPo
namespace Go.Proofs.YtocfbanbphhhbaaDoor
open Go.RowKit T Y V
variable {w w' w2 : World} {g : Nat}
attribute [local go_sem ↓] ldSh_eq stSh_eq ldO_eq stO_eq

theorem run_fdSh1 (a b : ByteArray) (w : World) : (Instr.field 55 (.agg #[.string a, .string b]) 1).run Tryd.prog w = .ok (.string b) w := by kernel_rfl
/-- while the plain step is made -/
structure Pn (w v : World) (g1 g2 g3 : Nat) (o p : Sp) : Prop where
  x : OBox v g1 o
  z : OBox v g2 sp0
  y : OBox v g3 p
  b : Below w.heap.size w v
  h1 : w.heap.size ≤ g1
  h12 : g1 < g2
  h23 : g2 < g3
theorem Pn.below {g1 g2 g3 : Nat} {o p : Sp} {v : World} (h : Pn w v g1 g2 g3 o p) (k : Below v.heap.size v w2) : Pn w w2 g1 g2 g3 o p :=
  ⟨h.x.below k, h.z.below k, h.y.below k, h.b.trans (k.mono h.b.size), h.h1, h.h12, h.h23⟩
theorem Pn.on {g1 g2 g3 : Nat} {o p q : Sp} {v : World} (h : Pn w v g1 g2 g3 o p) (k : KG v w2 g3) (hy : OBox w2 g3 q) : Pn w w2 g1 g2 g3 o q := by
  have := h.h1
  have := h.h12
  have := h.h23
  exact ⟨(k.gr.block g1 h.x.lt (by intro e; have := Option.some.inj e; omega)).trans h.x, (k.gr.block g2 h.z.lt (by intro e; have := Option.some.inj e; omega)).trans h.z, hy, h.b.trans (k.below (by omega) h.b.size), h.h1, h.h12, h.h23⟩
set_option maxRecDepth 100000 in
set_option maxHeartbeats 3200000 in
theorem plain_any (o : Sp) (w : World) (hs : Sht w) : Calls Tryd.prog 10 #[.agg (OC o)] w fun e w' => e = .returned (.agg (OC (plainP o))) ∧ Below w.heap.size w w' := by
  obtain ⟨w1, hw1⟩ : ∃ w1, w.alloc (.cells (OC o) 31) = w1 := ⟨_, rfl⟩
  have hx1 : OBox w1 w.heap.size o := by rw [← hw1]; exact OBox_new w o
  have hb1 : Below w.heap.size w w1 := by rw [← hw1]; exact below_new _ _
  have hz1 : w1.heap.size = w.heap.size + 1 := by rw [← hw1]; simp
  obtain ⟨w2, hw2, hx2, hb2, hz2⟩ := zero_made w1
  have e2 : w1.heap.size = w.heap.size + 1 := hz1
  have c0 : w2.cell? ⟨w.heap.size, 0, none⟩ = some (.int .i64 o.kind) := (hx1.below hb2).c0
  obtain ⟨w3, hst, hx3, hb3, hz3⟩ := madeO w2 { sp0 with kind := o.kind } w2.heap.size rfl
  have hst' : (stO (.pointer (some ⟨w2.heap.size, 0, none⟩)) (.agg #[.int .i64 o.kind, .int .i64 0, .int .i64 0, .int .i64 0, .string ⟨#[]⟩, .int .i64 0, .int .i64 0])).run Tryd.prog (w2.alloc (.cells #[.int .i64 0, .int .i64 0, .int .i64 0, .int .i64 0, .string ⟨#[]⟩, .int .i64 0, .int .i64 0] 31)) = .ok () w3 := hst
  have c3 : w3.cell? ⟨w.heap.size, 0, none⟩ = some (.int .i64 o.kind) := ((hx1.below hb2).below hb3).c0
  have bw2 := hb1.trans (hb2.mono hb1.size)
  have bw3 := bw2.trans (hb3.mono bw2.size)
  have HP0 : Hid (Pn w w3 w.heap.size w1.heap.size w2.heap.size o { sp0 with kind := o.kind }) := ⟨(hx1.below hb2).below hb3, hx2.below hb3, hx3, bw3, Nat.le_refl _, by omega, by omega⟩
  have HC := hide (shapeOf_any o.kind w3 (hs.on bw3))
  obtain ⟨F, hF⟩ : ∃ F, fdsL o.kind = F := ⟨_, rfl⟩
  have hF4 : F.length ≤ 4 := by rw [← hF]; exact (fds_small (kdN o.kind) (kdN_lt o.kind)).1
  have HPl : Hid (plainP o = F.foldl (cpF o) { sp0 with kind := o.kind }) := by show _ = _; unfold plainP; rw [hF]
  have HFg : Hid (∀ i (h : i < (bs F).size), (bs F)[i] = F.getD i 0) := bs_get F
  obtain ⟨m, hm⟩ : ∃ m, F.length = m := ⟨_, rfl⟩
  have hFm : (bs F).size = m := by rw [bs_size]; exact hm
  have hfd := run_fdSh1 (bs (wrdL o.kind)) (bs F)
  rw [hF] at HC
  have HM := hide hm
  have hm4 : m ≤ 4 := by omega
  have HZ1 := hide hz1
  clear hs hx1 hb1 hx2 hb2 hz2 hst hx3 hb3 hz3 bw2 bw3 hF hm e2 hz1
  go_enter Tryd.func10, Tryd.ntmps10
  go_wp2_with (go_at_call 21; refine HC.out.mono ?_; rintro e w4 ⟨rfl, b4⟩; have HP4 := hide (HP0.out.below b4); clear b4)
  clear hfd hst' c0 c3 HC HP0
  go_loopw [15] (fun v wr => ∃ (i : Nat) (p : Sp), i ≤ m ∧ v = .int .i64 (i : Int) ∧ Hid (Pn w wr w.heap.size w1.heap.size w2.heap.size o p) ∧ Hid (plainP o = (F.drop i).foldl (cpF o) p)) (fun v _ => m - (intOf v).toNat)
  case atStart => exact ⟨0, _, by omega, rfl, HP4, HPl⟩
  case round =>
    clear HP4 HPl
    obtain ⟨i, p, hi, rfl, HP, HA⟩ := hrel
    by_cases hlt : i < m
    · have hiI : (i : Int) < m := by omega
      have hiF : i < (bs F).size := by omega
      obtain ⟨f, hf⟩ : ∃ f, (bs F)[i] = f := ⟨_, rfl⟩
      have hA : plainP o = (F.drop (i + 1)).foldl (cpF o) (cpF o p f) := by
        have hil : i < F.length := by have := HM.out; omega
        rw [HA.out, List.drop_eq_getElem_cons hil, List.foldl_cons, ← hf, HFg.out i hiF]
        simp [List.getD, hil]
      have HAs := hide hA
      clear hA HA
      cases h115 : ((f.toNat : Int) == 115) with
      | true =>
        have hf5 := beqN (n := 115) h115
        have HQ : Hid (cpF o p f = { p with sku := o.sku }) := by show _ = _; unfold cpF; rw [if_pos hf5]
        have c4 := HP.out.x.c4
        have d4 := HP.out.y.c4
        have f4 := (HP.out.y.setS o.sku).2
        have HP5 := hide (HP.out.on ((KG.of (Below.refl _ _) w2.heap.size).set 4 (.string o.sku)) (HP.out.y.setS o.sku).1)
        clear hf5
        go_wp2_with fail
        go_roundw
        case rel => exact ⟨i + 1, _, by omega, by go_num, HP5, by show _ = _; rw [HAs.out, HQ.out]⟩
        case measure => simp [intOf]; omega
      | false =>
        have hf5 := bneN (n := 115) h115
        have HQ : Hid (cpF o p f = setN p f (fdN o f)) := by show _ = _; unfold cpF; rw [if_neg hf5]
        have c4 := HP.out.x.atF f
        have d4 := HP.out.y.atF f
        have f4 := (HP.out.y.setF f (fdN o f)).2
        have HP5 := hide (HP.out.on ((KG.of (Below.refl _ _) w2.heap.size).set (fi f) (.int .i64 (fdN o f))) (HP.out.y.setF f (fdN o f)).1)
        have HPn := hide (HP5.out.below (below_drew1 _))
        clear hf5
        go_wp2_with fail
        refine wp_region_held_drew (S := fun v => v.cell? ⟨w.heap.size, fi f, none⟩ = some (.int .i64 (fdN o f))) (by kernel_rfl) (c4) (fun hHeld => ?_)
        refine wpAnyH_take (i := 0) (oi := { dst := some 25, op := Op.move (Operand.tmp 4), type := 9, pos := "script.go:18", after := #[], guard := none }) (v := ?_) rfl (by kernel_rfl) (by kernel_rfl) (by kernel_rfl) (fun _ _ _ h => h) (Or.inl ⟨by rfl, ?_⟩) (by assumption) ?_
        rotate_left
        · (intro w hSw; (try dsimp only at hSw); go_simp); first | done | with_reducible rfl
        simp only [Act.put, List.setIfInBounds_toArray, List.set_cons_zero, List.set_cons_succ]
        refine wpAnyH_take (i := 1) (oi := { dst := some 26, op := Op.move (Operand.tmp 5), type := 3, pos := "script.go:18", after := #[], guard := none }) (v := ?_) rfl (by kernel_rfl) (by kernel_rfl) (by kernel_rfl) (fun _ _ _ h => h) (Or.inl ⟨by rfl, ?_⟩) (by assumption) ?_
        rotate_left
        · (intro w hSw; (try dsimp only at hSw); go_simp); first | done | with_reducible rfl
        simp only [Act.put, List.setIfInBounds_toArray, List.set_cons_zero, List.set_cons_succ]
        refine wpAnyH_take (i := 2) (oi := { dst := some 27, op := Op.index 9 (Operand.tmp 25) (Operand.tmp 26), type := 5, pos := "script.go:18", after := #[{ on := 0, ground := Ground.data }, { on := 1, ground := Ground.data }], guard := none }) (v := ?_) rfl (by kernel_rfl) (by kernel_rfl) (by kernel_rfl) (fun _ _ _ h => h) (Or.inl ⟨by rfl, ?_⟩) (by assumption) ?_
        rotate_left
        · (intro w hSw; (try dsimp only at hSw); go_simp; (try simp only [hf]); go_simp); first | done | with_reducible rfl
        simp only [Act.put, List.setIfInBounds_toArray, List.set_cons_zero, List.set_cons_succ]
        refine wpAnyH_take (i := 4) (oi := { dst := some 29, op := Op.move (Operand.tmp 4), type := 9, pos := "script.go:18", after := #[], guard := none }) (v := ?_) rfl (by kernel_rfl) (by kernel_rfl) (by kernel_rfl) (fun _ _ _ h => h) (Or.inl ⟨by rfl, ?_⟩) (by assumption) ?_
        rotate_left
        · (intro w hSw; (try dsimp only at hSw); go_simp); first | done | with_reducible rfl
        simp only [Act.put, List.setIfInBounds_toArray, List.set_cons_zero, List.set_cons_succ]
        refine wpAnyH_take (i := 5) (oi := { dst := some 30, op := Op.move (Operand.tmp 5), type := 3, pos := "script.go:18", after := #[], guard := none }) (v := ?_) rfl (by kernel_rfl) (by kernel_rfl) (by kernel_rfl) (fun _ _ _ h => h) (Or.inl ⟨by rfl, ?_⟩) (by assumption) ?_
        rotate_left
        · (intro w hSw; (try dsimp only at hSw); go_simp); first | done | with_reducible rfl
        simp only [Act.put, List.setIfInBounds_toArray, List.set_cons_zero, List.set_cons_succ]
        refine wpAnyH_take (i := 6) (oi := { dst := some 31, op := Op.index 9 (Operand.tmp 29) (Operand.tmp 30), type := 5, pos := "script.go:18", after := #[{ on := 4, ground := Ground.data }, { on := 5, ground := Ground.data }], guard := none }) (v := ?_) rfl (by kernel_rfl) (by kernel_rfl) (by kernel_rfl) (fun _ _ _ h => h) (Or.inl ⟨by rfl, ?_⟩) (by assumption) ?_
        rotate_left
        · (intro w hSw; (try dsimp only at hSw); go_simp; (try simp only [hf]); go_simp); first | done | with_reducible rfl
        simp only [Act.put, List.setIfInBounds_toArray, List.set_cons_zero, List.set_cons_succ]
        refine wpAnyH_ready (rs := [3]) (by kernel_rfl) (by simp) ?_
        refine AllReadyH.cons rfl (fun K hK => ?_) ?_
        rotate_left
        · exact AllReadyH.nil
        go_simp
        go_wp2_with fail
        refine (numberIn_any _ f _).mono ?_
        rintro e w5 ⟨rfl, h5⟩
        subst w5
        refine hK.out _ _ c4 (fun hHeld => ?_)
        clear hK K
        refine wpAnyH_ready (rs := [7]) (by kernel_rfl) (by simp) ?_
        refine AllReadyH.cons rfl (fun K hK => ?_) ?_
        rotate_left
        · exact AllReadyH.nil
        go_simp
        go_wp2_with fail
        refine (numberIn_any _ f _).mono ?_
        rintro e w5 ⟨rfl, h5⟩
        subst w5
        refine hK.out _ _ c4 (fun hHeld => ?_)
        clear hK K
        refine wpAnyH_take (i := 8) (oi := { dst := some 33, op := Op.nilCheck (Operand.tmp 32), type := 0, pos := "script.go:18", after := #[{ on := 7, ground := Ground.data }], guard := none }) (v := ?_) rfl (by kernel_rfl) (by kernel_rfl) (by kernel_rfl) (fun _ _ _ h => h) (Or.inl ⟨by rfl, ?_⟩) (by assumption) ?_
        rotate_left
        · (intro w hSw; (try dsimp only at hSw); go_simp); first | done | with_reducible rfl
        simp only [Act.put, List.setIfInBounds_toArray, List.set_cons_zero, List.set_cons_succ]
        refine wpAnyH_take (i := 9) (oi := { dst := some 34, op := Op.load 3 (Operand.tmp 33), type := 3, pos := "script.go:18", after := #[{ on := 8, ground := Ground.data }], guard := none }) (v := ?_) rfl (by kernel_rfl) (by kernel_rfl) (by kernel_rfl) (fun _ _ _ h => h) (Or.inl ⟨by rfl, ?_⟩) (by assumption) ?_
        rotate_left
        · (intro w hSw; (try dsimp only at hSw); have hl := hSw; go_simp); first | done | with_reducible rfl
        simp only [Act.put, List.setIfInBounds_toArray, List.set_cons_zero, List.set_cons_succ]
        refine wpAnyH_take (i := 10) (oi := { dst := some 35, op := Op.nilCheck (Operand.tmp 28), type := 0, pos := "script.go:18", after := #[{ on := 3, ground := Ground.data }, { on := 0, ground := Ground.phase }, { on := 1, ground := Ground.phase }, { on := 2, ground := Ground.phase }, { on := 3, ground := Ground.phase }, { on := 4, ground := Ground.phase }, { on := 5, ground := Ground.phase }, { on := 6, ground := Ground.phase }, { on := 7, ground := Ground.phase }, { on := 8, ground := Ground.phase }, { on := 9, ground := Ground.phase }], guard := none }) (v := ?_) rfl (by kernel_rfl) (by kernel_rfl) (by kernel_rfl) (fun _ _ _ h => h) (Or.inl ⟨by rfl, ?_⟩) (by assumption) ?_
        rotate_left
        · (intro w hSw; (try dsimp only at hSw); go_simp); first | done | with_reducible rfl
        simp only [Act.put, List.setIfInBounds_toArray, List.set_cons_zero, List.set_cons_succ]
        refine wpAnyH_ready (rs := [11]) (by kernel_rfl) (by simp) ?_
        refine AllReadyH.cons rfl (fun K hK => ?_) ?_
        rotate_left
        · exact AllReadyH.nil
        go_simp
        go_wp2_with fail
        refine hK.out _ _ (HPn.out.x.atF f) (fun hHeld => ?_)
        clear hK K
        refine wpAnyH_done (by kernel_rfl) ?_ _
        clear hHeld
        go_wp2_with fail
        go_roundw
        case rel => exact ⟨i + 1, _, by omega, by go_num, HPn, by show _ = _; rw [HAs.out, HQ.out]⟩
        case measure => simp [intOf]; omega
    · obtain rfl : i = m := by omega
      have HE : Hid (plainP o = p) := by show _ = _; rw [HA.out, List.drop_eq_nil_of_le (by have := HM.out; omega)]; rfl
      have hld := run_ldO HP.out.y
      obtain ⟨w6, hst, hx6, k6⟩ := op_put (o := p) HP.out.z
      have HX6 := hide hx6
      have HB6 : Hid (Below w.heap.size w w6) := HP.out.b.trans (k6.below (by have := HP.out.h1; have := HP.out.h12; omega) HP.out.b.size)
      clear hx6 k6
      go_wp2_with fail
      exact bodyPost_ret (res1O Tryd.results10 rfl HX6.out) rfl ⟨by rw [HE.out], HB6.out⟩
end Go.Proofs.YtocfbanbphhhbaaDoor
