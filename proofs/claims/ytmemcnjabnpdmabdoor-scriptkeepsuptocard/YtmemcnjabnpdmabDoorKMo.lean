/- ScriptMore: the law. -/
import Derived.Test.YtmemcnjabnpdmabDoorKMr
import Derived.Test.YtmemcnjabnpdmabDoorKLf
import Derived.Test.YtmemcnjabnpdmabDoorKAw
import Derived.OrdersHeld
import Derived.Deep.CutRange
namespace Go.Proofs.YtmemcnjabnpdmabDoor
open Go.RowKit T Y V
variable {w w' w2 : World} {g : Nat}
attribute [local go_sem] fold_OC
attribute [local go_sem ↓] ldO_eq stO_eq ldS_eq stS_eq ldHd_eq stHd_eq

theorem run_bldS (a b c d e f : Int) (bo : Option Addr) (m k : Nat) (w : World) : (Instr.build 26 #[(0, .agg (HdC ⟨a, b, c, d, e, f⟩)), (1, .slice bo m k)]).run Tryd.prog w = .ok (.agg (SC ⟨a, b, c, d, e, f, bo, m, k⟩)) w := by kernel_rfl
theorem exec_bld {ρ : Operand → Value} {o : Oper} {a b c d e f : Int} {bo : Option Addr} {m k : Nat} (ho : o.op = .build 26 #[(0, .tmp 40), (1, .tmp 48)]) (h40 : ρ (.tmp 40) = .agg (HdC ⟨a, b, c, d, e, f⟩)) (h48 : ρ (.tmp 48) = .slice bo m k) (w : World) : (execOp ρ o).run Tryd.prog w = .ok (.value (.agg (SC ⟨a, b, c, d, e, f, bo, m, k⟩))) w := by
  have h := run_bldS a b c d e f bo m k w
  simp [execOp, ho, h40, h48, h, Result.andThen]
theorem bs_glue (T u : List UInt8) : bs T ++ ⟨#[10]⟩ ++ bs u = bs (T ++ 10 :: u) := by
  apply ByteArray.ext
  simp [bs, ByteArray.data_append]
theorem take_len {r r' : Rd} {l : List UInt8} (h : takeP r l = some r') : r'.ops.length ≤ r.ops.length + 1 := by
  unfold takeP at h
  split at h
  · cases h
  · cases h; omega
  · split at h
    · obtain ⟨x, _, rfl⟩ := Option.map_eq_some_iff.1 h
      exact Nat.le_succ _
    · obtain ⟨x, _, rfl⟩ := Option.map_eq_some_iff.1 h
      simp
theorem parse_len : ∀ (m : Nat) (t : List UInt8), t.length ≤ m → ∀ (r : Rd) (k : Nat) (h : List Int) (L : List Sp), parseT r k t = .ok h L → L.length ≤ r.ops.length + t.length := by
  intro m
  induction m with
  | zero =>
    intro t ht r k h L hp
    have : t = [] := List.eq_nil_of_length_eq_zero (by omega)
    subst this
    rw [parseT_nil] at hp
    split at hp
    · cases hp
    · cases hp; omega
  | succ m ih =>
    intro t ht r k h L hp
    by_cases h0 : t = []
    · subst h0
      rw [parseT_nil] at hp
      split at hp
      · cases hp
      · cases hp; omega
    · have hlt := rest_lt h0
      cases hk : takeP r (lineOf t) with
      | none => rw [parseT_bad h0 hk] at hp; cases hp
      | some r' =>
        rw [parseT_go h0 hk] at hp
        have h1 := ih (restOf t) (by omega) r' (k + 1) h L hp
        have h2 := take_len hk
        omega
theorem parse_ok {T : List UInt8} {h : List Int} {L : List Sp} {a b c d e f : Int} (hp : parseP T = .ok h L) (hT : T.length ≤ 100000000000) (hh : hdL h = ⟨a, b, c, d, e, f⟩) (v : World) (u : Un v) : Calls Tryd.prog 9 #[.string (bs T)] v fun r w' => (∃ so n sc, r = .returned (.tuple #[.agg (SC ⟨a, b, c, d, e, f, so, n, sc⟩), .int .i64 0, .int .i64 0]) ∧ OR w' so n sc L ∧ ∀ k, blk so = some k → v.heap.size ≤ k) ∧ Below v.heap.size v w' := by
  refine (parse_any T hT v u).mono ?_
  rintro r w' ⟨hA, hb⟩
  rw [hp] at hA
  obtain ⟨so, n, sc, he, hO, hf⟩ := hA
  unfold scOf at he
  rw [hh] at he
  exact ⟨⟨so, n, sc, he, hO, hf⟩, hb⟩
theorem parse_no {T : List UInt8} {n : Nat} (hp : parseP T = .bad n) (hT : T.length ≤ 100000000000) (v : World) (u : Un v) : Calls Tryd.prog 9 #[.string (bs T)] v fun r w' => r = .returned (.tuple #[.agg (SC sc0), .int .i64 (n : Int), .int .i64 17]) ∧ Below v.heap.size v w' := by
  refine (parse_any T hT v u).mono ?_
  rintro r w' ⟨hA, hb⟩
  rw [hp] at hA
  exact ⟨hA, hb⟩
set_option maxRecDepth 100000 in
set_option maxHeartbeats 6400000 in
theorem more_any (T u : List UInt8) (o : Sp) (w : World) (hT : T.length ≤ 10000000000) (hU : u.length ≤ 10000000000) (ho : Ok o) (hsk : o.sku.size ≤ 100000000) (hu : Un w) :
    Calls Tryd.prog 5 #[.string (bs T), .agg (OC o), .string (bs u)] w fun r w' => r = .returned (.bool true) ∧ Below w.heap.size w w' := by
  obtain ⟨w1, hw1⟩ : ∃ w1, w.alloc (.cells (OC o) 40) = w1 := ⟨_, rfl⟩
  have hx1 : OBox w1 w.heap.size o := by rw [← hw1]; exact OBox_new w _
  have hb1 : Below w.heap.size w w1 := by rw [← hw1]; exact below_new _ _
  have HX := hide hx1
  have HB := hide hb1
  have HU := hide hu
  have HA := hide (fun v (h : Un v) => awake_any v h)
  clear hx1 hb1 hu
  cases hp : parseP T with
  | bad n =>
    have HP := hide (parse_no hp (by omega))
    clear hp
    go_enter Tryd.func5, Tryd.ntmps5
    go_wp2_with fail
    refine (HA.out _ (HU.out.on HB.out)).mono ?_
    rintro r w2 ⟨rfl, b2⟩
    have HB2 := hide (HB.out.trans (b2.mono HB.out.size))
    clear b2
    go_wp2_with fail
    refine (HP.out _ (HU.out.on HB2.out)).mono ?_
    rintro r w3 ⟨rfl, b3⟩
    obtain ⟨w4, hst4, -, b4⟩ := madeS' w3 sc0
    have bw3 := HB2.out.trans (b3.mono HB2.out.size)
    have HB4 := hide (bw3.trans (b4.mono bw3.size))
    go_wp2_with fail
    go_ret
    exact ⟨rfl, HB4.out⟩
  | ok h L =>
    obtain ⟨⟨a, b, c, d, e, f⟩, hH⟩ : ∃ H, hdL h = H := ⟨_, rfl⟩
    have HP := hide (parse_ok hp (by omega) hH)
    have hol : (opT o).length ≤ 10000000000 := by have := ho.opT; omega
    have HP2 : Hid (∀ v, Un v → Calls Tryd.prog 9 #[.string (bs T ++ ⟨#[10]⟩ ++ bs (opT o))] v fun r w' => (∃ so n sc, r = .returned (.tuple #[.agg (SC ⟨a, b, c, d, e, f, so, n, sc⟩), .int .i64 0, .int .i64 0]) ∧ OR w' so n sc (L ++ [plainP o]) ∧ ∀ k, blk so = some k → v.heap.size ≤ k) ∧ Below v.heap.size v w') := fun v uv => by
      rw [bs_glue]
      exact parse_ok (more_op hp (parse_print o ho)) (by simp; omega) hH v uv
    have HPo := hide (fun v (hv : Un v) => printOp_any o v ho hv.t hv.s)
    have HPl := hide (fun v (hv : Un v) => plain_any o v hv.s)
    have hs1 : (bs T).size ≤ 10000000000 := by rw [bs_size]; exact hT
    have hs2 : (bs (opT o)).size ≤ 10000000000 := by rw [bs_size]; exact hol
    have hs3 : (bs u).size ≤ 10000000000 := by rw [bs_size]; exact hU
    have HLn : Hid (∀ n, L.length = n → n ≤ 10000000000) := fun n hn => by
      have := parse_len _ T (Nat.le_refl _) ⟨none, []⟩ 0 h L hp
      simp only [List.length_nil] at this
      omega
    go_enter Tryd.func5, Tryd.ntmps5
    go_wp2_with fail
    refine (HA.out _ (HU.out.on HB.out)).mono ?_
    rintro r w2 ⟨rfl, b2⟩
    have hx2 := HX.out.below b2
    have HX2 := hide hx2
    have HB2 := hide (HB.out.trans (b2.mono HB.out.size))
    clear b2 hx2
    go_wp2_with fail
    refine (HP.out _ (HU.out.on HB2.out)).mono ?_
    rintro r w3 ⟨⟨so, n, sc, rfl, hO3, -⟩, b3⟩
    obtain ⟨w4, hst4, hS4, b4⟩ := madeS' w3 ⟨a, b, c, d, e, f, so, n, sc⟩
    have bw3 := HB2.out.trans (b3.mono HB2.out.size)
    have HB4 := hide (bw3.trans (b4.mono bw3.size))
    have hx4 := (HX2.out.below b3).below b4
    have HX4 := hide hx4
    have HS4 := hide hS4
    have HO4 := hide (hO3.below b4)
    have hln := HLn.out n hO3.len
    have hl4 := run_ldO hx4
    clear bw3 hS4 hO3 hx4
    go_wp2_with fail
    refine (HPo.out _ (HU.out.on HB4.out)).mono ?_
    rintro r w5 ⟨rfl, b5⟩
    have HB5 := hide (HB4.out.trans (b5.mono HB4.out.size))
    go_wp2_with fail
    refine (HP2.out _ (HU.out.on HB5.out)).mono ?_
    rintro r w6 ⟨⟨so1, n1, c1, rfl, hO6, -⟩, b6⟩
    obtain ⟨w7, hst7, hS7, b7⟩ := madeS' w6 ⟨a, b, c, d, e, f, so1, n1, c1⟩
    have bw6 := HB5.out.trans (b6.mono HB5.out.size)
    have HB7 := hide (bw6.trans (b7.mono bw6.size))
    have HX7 := hide (((HX4.out.below b5).below b6).below b7)
    have HS7 := hide (((HS4.out.below b5).below b6).below b7)
    have HO7 := hide (((HO4.out.below b5).below b6).below b7)
    have HT7 := hide hS7
    have HQ7 := hide (hO6.below b7)
    have hn1 := hO6.len
    rw [List.length_append, HO7.out.len] at hn1
    have hn1' : n1 = n + 1 := hn1.symm
    subst hn1'
    obtain ⟨po, hpo⟩ : ∃ po, plainP o = po := ⟨_, rfl⟩
    rw [hpo] at HQ7 HPl
    have HGS0 : Hid (w.heap.size ≤ w6.heap.size ∧ w3.heap.size ≠ w6.heap.size) := ⟨bw6.size, by have h1 := HS4.out.lt; have h2 := b5.size; have h3 := b6.size; omega⟩
    have HGO0 : Hid (∀ k, blk so = some k → k ≠ w6.heap.size) := fun k hk e2 => by have h1 := HO4.out.lt k hk; have h2 := b5.size; have h3 := b6.size; omega
    clear bw6 hS7 hO6 hn1 b5 b6 hl4 b3 b4
    go_upto_region 7 with fail
    obtain ⟨g7, hg7⟩ : ∃ g7, w3.heap.size = g7 := ⟨_, rfl⟩
    obtain ⟨g10, hg10⟩ : ∃ g10, w6.heap.size = g10 := ⟨_, rfl⟩
    obtain ⟨g4, hg4⟩ : ∃ g4, w.heap.size = g4 := ⟨_, rfl⟩
    try rw [hg7]
    try rw [hg10]
    try rw [hg4]
    rw [hg7] at HS7
    rw [hg10] at HT7
    rw [hg4] at HX7
    have HGS : Hid (w.heap.size ≤ g10 ∧ g7 ≠ g10) := by rw [← hg7, ← hg10]; exact HGS0
    have HGO : Hid (∀ k, blk so = some k → k ≠ g10) := by rw [← hg10]; exact HGO0
    clear HGS0 HGO0
    clear hst7 hst4 hg7 hg10 HX4 HS4 HO4 b7 HP2 HPo HP HX2 HB2 HB5 HB4 HX HB
    go_cut [12] from 39 to 49 (fun t wx => ∃ (g : Nat) (bo : Option Addr) (cc : Nat), t = .pointer (some ⟨g, 0, none⟩) ∧ Hid (Wt w7 wx g a b c d e f bo (n + 1) cc (L ++ [po])))
    case first =>
      as_aux_lemma =>
        skip
        have H0 := hide ((St7.nil w7).below (below_drew1 w7))
        refine wp_region_held_drew (S := fun v => SBox v g7 ⟨a, b, c, d, e, f, so, n, sc⟩ ∧ OBox v g4 o) (by kernel_rfl) (⟨HS7.out.below H0.out.b, HX7.out.below H0.out.b⟩) (fun hHeld => ?_)
        refine wpAnyH_take (i := 0) (oi := { dst := some 39, op := Op.fieldAddr 26 (Operand.tmp 7) 0, type := 0, pos := "outright.go:131", after := #[], guard := none }) (v := ?_) rfl (by kernel_rfl) (by kernel_rfl) (by kernel_rfl) (fun _ _ _ h => h) (Or.inl ⟨by rfl, ?_⟩) (by assumption) ?_
        rotate_left
        · (intro w hSw; (try dsimp only at hSw); go_simp); first | done | with_reducible rfl
        simp only [Act.put, List.setIfInBounds_toArray, List.set_cons_zero, List.set_cons_succ]
        refine wpAnyH_take (i := 1) (oi := { dst := some 40, op := Op.load 23 (Operand.tmp 39), type := 23, pos := "outright.go:131", after := #[{ on := 0, ground := Ground.data }], guard := none }) (v := ?_) rfl (by kernel_rfl) (by kernel_rfl) (by kernel_rfl) (fun _ _ _ h => h) (Or.inl ⟨by rfl, ?_⟩) (by assumption) ?_
        rotate_left
        · (intro w hSw; (try dsimp only at hSw); have hl := hSw.1.hdAt; go_simp); first | done | with_reducible rfl
        simp only [Act.put, List.setIfInBounds_toArray, List.set_cons_zero, List.set_cons_succ]
        refine wpAnyH_take (i := 3) (oi := { dst := some 42, op := Op.fieldAddr 26 (Operand.tmp 7) 1, type := 0, pos := "outright.go:131", after := #[], guard := none }) (v := ?_) rfl (by kernel_rfl) (by kernel_rfl) (by kernel_rfl) (fun _ _ _ h => h) (Or.inl ⟨by rfl, ?_⟩) (by assumption) ?_
        rotate_left
        · (intro w hSw; (try dsimp only at hSw); go_simp); first | done | with_reducible rfl
        simp only [Act.put, List.setIfInBounds_toArray, List.set_cons_zero, List.set_cons_succ]
        refine wpAnyH_take (i := 4) (oi := { dst := some 43, op := Op.load 24 (Operand.tmp 42), type := 24, pos := "outright.go:131", after := #[{ on := 3, ground := Ground.data }], guard := none }) (v := ?_) rfl (by kernel_rfl) (by kernel_rfl) (by kernel_rfl) (fun _ _ _ h => h) (Or.inl ⟨by rfl, ?_⟩) (by assumption) ?_
        rotate_left
        · (intro w hSw; (try dsimp only at hSw); have hl := hSw.1.c6; go_simp); first | done | with_reducible rfl
        simp only [Act.put, List.setIfInBounds_toArray, List.set_cons_zero, List.set_cons_succ]
        refine wpAnyH_take (i := 6) (oi := { dst := some 45, op := Op.load 40 (Operand.tmp 4), type := 40, pos := "outright.go:131", after := #[], guard := none }) (v := ?_) rfl (by kernel_rfl) (by kernel_rfl) (by kernel_rfl) (fun _ _ _ h => h) (Or.inl ⟨by rfl, ?_⟩) (by assumption) ?_
        rotate_left
        · (intro w hSw; (try dsimp only at hSw); have hl := run_ldO hSw.2; go_simp); first | done | with_reducible rfl
        simp only [Act.put, List.setIfInBounds_toArray, List.set_cons_zero, List.set_cons_succ]
        refine wpAnyH_ready (rs := [2, 11]) (by kernel_rfl) (by simp) ?_
        refine AllReadyH.cons rfl (fun K hK => ?_) (AllReadyH.cons rfl (fun K hK => ?_) AllReadyH.nil)
        · go_simp
          obtain ⟨v1, hv1⟩ : ∃ v, w7.drew.alloc (.cells #[] 40) = v := ⟨_, rfl⟩
          have H1 := hide (H0.out.lit)
          rw [hv1] at H1
          refine hK.out _ (w7.drew.alloc (.cells #[] 40)) (by rw [hv1]; exact ⟨HS7.out.below H1.out.b, HX7.out.below H1.out.b⟩) (fun hHeld => ?_)
          clear hK K
          rw [hv1]
          clear hv1
          refine wpAnyH_ready (rs := [5, 11]) (by kernel_rfl) (by simp) ?_
          refine AllReadyH.cons rfl (fun K hK => ?_) (AllReadyH.cons rfl (fun K hK => ?_) AllReadyH.nil)
          · obtain ⟨b2, q2, v2, hr2, R2, A2⟩ := H1.out.r.runsS (HO7.out.src.below H1.out.b) (by omega) 24
            rw [Nat.zero_add] at hr2 R2
            rw [List.nil_append] at R2
            have H2 := hide (H1.out.app R2 A2)
            refine step_appO (by rfl) (.tmp 41) (.tmp 43) (by rfl) (by rfl) (by rfl) hr2 ?_
            refine hK.out _ _ ⟨HS7.out.below H2.out.b, HX7.out.below H2.out.b⟩ (fun hHeld => ?_)
            clear hK K hr2 R2 A2
            refine wpAnyH_ready (rs := [7, 11]) (by kernel_rfl) (by simp) ?_
            refine AllReadyH.cons rfl (fun K hK => ?_) (AllReadyH.cons rfl (fun K hK => ?_) AllReadyH.nil)
            · go_simp
              go_wp2_with fail
              refine (HPl.out v2 (HU.out.on (HB7.out.trans (H2.out.b.mono HB7.out.size)))).mono ?_
              rintro r v3 ⟨rfl, bb3⟩
              have H3 := hide (H2.out.below bb3)
              refine hK.out _ _ ⟨HS7.out.below H3.out.b, HX7.out.below H3.out.b⟩ (fun hHeld => ?_)
              clear hK K bb3
              refine wpAnyH_ready (rs := [8, 11]) (by kernel_rfl) (by simp) ?_
              refine AllReadyH.cons rfl (fun K hK => ?_) (AllReadyH.cons rfl (fun K hK => ?_) AllReadyH.nil)
              · go_simp
                obtain ⟨v4, hv4⟩ : ∃ v, v3.alloc (.cells (OC po) 40) = v := ⟨_, rfl⟩
                have H4 := hide (H3.out.below (below_new v3 (.cells (OC po) 40)))
                have O4 := hide (OR.one v3 po)
                rw [hv4] at H4 O4
                refine hK.out _ (v3.alloc (.cells (OC po) 40)) (by rw [hv4]; exact ⟨HS7.out.below H4.out.b, HX7.out.below H4.out.b⟩) (fun hHeld => ?_)
                clear hK K
                rw [hv4]
                clear hv4
                refine wpAnyH_ready (rs := [9, 11]) (by kernel_rfl) (by simp) ?_
                refine AllReadyH.cons rfl (fun K hK => ?_) (AllReadyH.cons rfl (fun K hK => ?_) AllReadyH.nil)
                · obtain ⟨b5, q5, v5, hr5, R5, A5⟩ := H4.out.r.runsS O4.out.src (by omega) 24
                  have H5 := hide (H4.out.app R5 A5)
                  refine step_appO (by rfl) (.tmp 44) (.tmp 47) (by rfl) (by rfl) (by rfl) hr5 ?_
                  refine hK.out _ _ ⟨HS7.out.below H5.out.b, HX7.out.below H5.out.b⟩ (fun hHeld => ?_)
                  clear hK K hr5 R5 A5
                  refine wpAnyH_take (i := 10) (oi := { dst := some 49, op := Op.build 26 #[(0, Operand.tmp 40), (1, Operand.tmp 48)], type := 26, pos := "outright.go:131", after := #[{ on := 1, ground := Ground.data }, { on := 9, ground := Ground.data }], guard := none }) (v := .agg (SC ⟨a, b, c, d, e, f, b5, n + 1, q5⟩)) rfl (by kernel_rfl) (by kernel_rfl) (by kernel_rfl) (fun _ _ _ h => h) (Or.inl ⟨by rfl, fun w _ => exec_bld rfl rfl rfl w⟩) (by assumption) ?_
                  simp only [Act.put, List.setIfInBounds_toArray, List.set_cons_zero, List.set_cons_succ]
                  refine wpAnyH_ready (rs := [11]) (by kernel_rfl) (by simp) ?_
                  refine AllReadyH.cons rfl (fun K hK => ?_) ?_
                  rotate_left
                  · exact AllReadyH.nil
                  go_simp
                  obtain ⟨v6, hv6⟩ : ∃ v, v5.alloc (.cells #[.int .i64 0, .int .i64 0, .int .i64 0, .int .i64 0, .int .i64 0, .int .i64 0, .slice none 0 0] 26) = v := ⟨_, rfl⟩
                  have H6 := hide (H5.out.alloc)
                  rw [hv6] at H6
                  refine hK.out _ (v5.alloc (.cells #[.int .i64 0, .int .i64 0, .int .i64 0, .int .i64 0, .int .i64 0, .int .i64 0, .slice none 0 0] 26)) (by rw [hv6]; exact ⟨HS7.out.below H6.out.b, HX7.out.below H6.out.b⟩) (fun hHeld => ?_)
                  clear hK K
                  rw [hv6]
                  clear hv6
                  refine wpAnyH_ready (rs := [12]) (by kernel_rfl) (by simp) ?_
                  refine AllReadyH.cons rfl (fun K hK => ?_) ?_
                  rotate_left
                  · exact AllReadyH.nil
                  obtain ⟨vz, hst, hW⟩ := H6.out.put a b c d e f
                  have hst2 : (stS (.pointer (some ⟨v5.heap.size, 0, none⟩)) (.agg (SC ⟨a, b, c, d, e, f, b5, n + 1, q5⟩))).run Tryd.prog v6 = .ok () vz := hst
                  go_simp
                  go_wp2_with fail
                  refine hK.out _ _ ⟨HS7.out.below hW.b, HX7.out.below hW.b⟩ (fun hHeld => ?_)
                  clear hK K hst hst2
                  refine wpAnyH_done (by kernel_rfl) ?_ _
                  clear hHeld
                  go_wp2_with fail
                  go_meet
                  exact ⟨_, b5, q5, rfl, hW⟩
                · go_simp
                  obtain ⟨v8, hv8⟩ : ∃ v, v4.alloc (.cells #[.int .i64 0, .int .i64 0, .int .i64 0, .int .i64 0, .int .i64 0, .int .i64 0, .slice none 0 0] 26) = v := ⟨_, rfl⟩
                  have H8 := hide (H4.out.alloc)
                  have O8 := hide (O4.out.below (below_new v4 (.cells #[.int .i64 0, .int .i64 0, .int .i64 0, .int .i64 0, .int .i64 0, .int .i64 0, .slice none 0 0] 26)))
                  rw [hv8] at H8 O8
                  refine hK.out _ (v4.alloc (.cells #[.int .i64 0, .int .i64 0, .int .i64 0, .int .i64 0, .int .i64 0, .int .i64 0, .slice none 0 0] 26)) (by rw [hv8]; exact ⟨HS7.out.below H8.out.b, HX7.out.below H8.out.b⟩) (fun hHeld => ?_)
                  clear hK K
                  rw [hv8]
                  clear hv8
                  refine wpAnyH_ready (rs := [9]) (by kernel_rfl) (by simp) ?_
                  refine AllReadyH.cons rfl (fun K hK => ?_) ?_
                  rotate_left
                  · exact AllReadyH.nil
                  obtain ⟨b9, q9, v9, hr9, R9, A9⟩ := H8.out.r.runsS O8.out.src (by omega) 24
                  have H9 := hide (H8.out.app R9 A9)
                  refine step_appO (by rfl) (.tmp 44) (.tmp 47) (by rfl) (by rfl) (by rfl) hr9 ?_
                  refine hK.out _ _ ⟨HS7.out.below H9.out.b, HX7.out.below H9.out.b⟩ (fun hHeld => ?_)
                  clear hK K hr9 R9 A9
                  refine wpAnyH_take (i := 10) (oi := { dst := some 49, op := Op.build 26 #[(0, Operand.tmp 40), (1, Operand.tmp 48)], type := 26, pos := "outright.go:131", after := #[{ on := 1, ground := Ground.data }, { on := 9, ground := Ground.data }], guard := none }) (v := .agg (SC ⟨a, b, c, d, e, f, b9, n + 1, q9⟩)) rfl (by kernel_rfl) (by kernel_rfl) (by kernel_rfl) (fun _ _ _ h => h) (Or.inl ⟨by rfl, fun w _ => exec_bld rfl rfl rfl w⟩) (by assumption) ?_
                  simp only [Act.put, List.setIfInBounds_toArray]
                  refine wpAnyH_ready (rs := [12]) (by kernel_rfl) (by simp) ?_
                  refine AllReadyH.cons rfl (fun K hK => ?_) ?_
                  rotate_left
                  · exact AllReadyH.nil
                  obtain ⟨vz, hst, hW⟩ := H9.out.put a b c d e f
                  have hst2 : (stS (.pointer (some ⟨v4.heap.size, 0, none⟩)) (.agg (SC ⟨a, b, c, d, e, f, b9, n + 1, q9⟩))).run Tryd.prog v9 = .ok () vz := hst
                  go_simp
                  go_wp2_with fail
                  refine hK.out _ _ ⟨HS7.out.below hW.b, HX7.out.below hW.b⟩ (fun hHeld => ?_)
                  clear hK K hst hst2
                  refine wpAnyH_done (by kernel_rfl) ?_ _
                  clear hHeld
                  go_wp2_with fail
                  go_meet
                  exact ⟨_, b9, q9, rfl, hW⟩
              · go_simp
                obtain ⟨v11, hv11⟩ : ∃ v, v3.alloc (.cells #[.int .i64 0, .int .i64 0, .int .i64 0, .int .i64 0, .int .i64 0, .int .i64 0, .slice none 0 0] 26) = v := ⟨_, rfl⟩
                have H11 := hide (H3.out.alloc)
                rw [hv11] at H11
                refine hK.out _ (v3.alloc (.cells #[.int .i64 0, .int .i64 0, .int .i64 0, .int .i64 0, .int .i64 0, .int .i64 0, .slice none 0 0] 26)) (by rw [hv11]; exact ⟨HS7.out.below H11.out.b, HX7.out.below H11.out.b⟩) (fun hHeld => ?_)
                clear hK K
                rw [hv11]
                clear hv11
                refine wpAnyH_ready (rs := [8]) (by kernel_rfl) (by simp) ?_
                refine AllReadyH.cons rfl (fun K hK => ?_) ?_
                rotate_left
                · exact AllReadyH.nil
                go_simp
                obtain ⟨v12, hv12⟩ : ∃ v, v11.alloc (.cells (OC po) 40) = v := ⟨_, rfl⟩
                have H12 := hide (H11.out.below (below_new v11 (.cells (OC po) 40)))
                have O12 := hide (OR.one v11 po)
                rw [hv12] at H12 O12
                refine hK.out _ (v11.alloc (.cells (OC po) 40)) (by rw [hv12]; exact ⟨HS7.out.below H12.out.b, HX7.out.below H12.out.b⟩) (fun hHeld => ?_)
                clear hK K
                rw [hv12]
                clear hv12
                refine wpAnyH_ready (rs := [9]) (by kernel_rfl) (by simp) ?_
                refine AllReadyH.cons rfl (fun K hK => ?_) ?_
                rotate_left
                · exact AllReadyH.nil
                obtain ⟨b13, q13, v13, hr13, R13, A13⟩ := H12.out.r.runsS O12.out.src (by omega) 24
                have H13 := hide (H12.out.app R13 A13)
                refine step_appO (by rfl) (.tmp 44) (.tmp 47) (by rfl) (by rfl) (by rfl) hr13 ?_
                refine hK.out _ _ ⟨HS7.out.below H13.out.b, HX7.out.below H13.out.b⟩ (fun hHeld => ?_)
                clear hK K hr13 R13 A13
                refine wpAnyH_take (i := 10) (oi := { dst := some 49, op := Op.build 26 #[(0, Operand.tmp 40), (1, Operand.tmp 48)], type := 26, pos := "outright.go:131", after := #[{ on := 1, ground := Ground.data }, { on := 9, ground := Ground.data }], guard := none }) (v := .agg (SC ⟨a, b, c, d, e, f, b13, n + 1, q13⟩)) rfl (by kernel_rfl) (by kernel_rfl) (by kernel_rfl) (fun _ _ _ h => h) (Or.inl ⟨by rfl, fun w _ => exec_bld rfl rfl rfl w⟩) (by assumption) ?_
                simp only [Act.put, List.setIfInBounds_toArray, List.set_cons_zero, List.set_cons_succ]
                refine wpAnyH_ready (rs := [12]) (by kernel_rfl) (by simp) ?_
                refine AllReadyH.cons rfl (fun K hK => ?_) ?_
                rotate_left
                · exact AllReadyH.nil
                obtain ⟨vz, hst, hW⟩ := H13.out.put a b c d e f
                have hst2 : (stS (.pointer (some ⟨v3.heap.size, 0, none⟩)) (.agg (SC ⟨a, b, c, d, e, f, b13, n + 1, q13⟩))).run Tryd.prog v13 = .ok () vz := hst
                go_simp
                go_wp2_with fail
                refine hK.out _ _ ⟨HS7.out.below hW.b, HX7.out.below hW.b⟩ (fun hHeld => ?_)
                clear hK K hst hst2
                refine wpAnyH_done (by kernel_rfl) ?_ _
                clear hHeld
                go_wp2_with fail
                go_meet
                exact ⟨_, b13, q13, rfl, hW⟩
            · go_simp
              obtain ⟨v15, hv15⟩ : ∃ v, v2.alloc (.cells #[.int .i64 0, .int .i64 0, .int .i64 0, .int .i64 0, .int .i64 0, .int .i64 0, .slice none 0 0] 26) = v := ⟨_, rfl⟩
              have H15 := hide (H2.out.alloc)
              rw [hv15] at H15
              refine hK.out _ (v2.alloc (.cells #[.int .i64 0, .int .i64 0, .int .i64 0, .int .i64 0, .int .i64 0, .int .i64 0, .slice none 0 0] 26)) (by rw [hv15]; exact ⟨HS7.out.below H15.out.b, HX7.out.below H15.out.b⟩) (fun hHeld => ?_)
              clear hK K
              rw [hv15]
              clear hv15
              refine wpAnyH_ready (rs := [7]) (by kernel_rfl) (by simp) ?_
              refine AllReadyH.cons rfl (fun K hK => ?_) ?_
              rotate_left
              · exact AllReadyH.nil
              go_simp
              go_wp2_with fail
              refine (HPl.out v15 (HU.out.on (HB7.out.trans (H15.out.b.mono HB7.out.size)))).mono ?_
              rintro r v16 ⟨rfl, bb16⟩
              have H16 := hide (H15.out.below bb16)
              refine hK.out _ _ ⟨HS7.out.below H16.out.b, HX7.out.below H16.out.b⟩ (fun hHeld => ?_)
              clear hK K bb16
              refine wpAnyH_ready (rs := [8]) (by kernel_rfl) (by simp) ?_
              refine AllReadyH.cons rfl (fun K hK => ?_) ?_
              rotate_left
              · exact AllReadyH.nil
              go_simp
              obtain ⟨v17, hv17⟩ : ∃ v, v16.alloc (.cells (OC po) 40) = v := ⟨_, rfl⟩
              have H17 := hide (H16.out.below (below_new v16 (.cells (OC po) 40)))
              have O17 := hide (OR.one v16 po)
              rw [hv17] at H17 O17
              refine hK.out _ (v16.alloc (.cells (OC po) 40)) (by rw [hv17]; exact ⟨HS7.out.below H17.out.b, HX7.out.below H17.out.b⟩) (fun hHeld => ?_)
              clear hK K
              rw [hv17]
              clear hv17
              refine wpAnyH_ready (rs := [9]) (by kernel_rfl) (by simp) ?_
              refine AllReadyH.cons rfl (fun K hK => ?_) ?_
              rotate_left
              · exact AllReadyH.nil
              obtain ⟨b18, q18, v18, hr18, R18, A18⟩ := H17.out.r.runsS O17.out.src (by omega) 24
              have H18 := hide (H17.out.app R18 A18)
              refine step_appO (by rfl) (.tmp 44) (.tmp 47) (by rfl) (by rfl) (by rfl) hr18 ?_
              refine hK.out _ _ ⟨HS7.out.below H18.out.b, HX7.out.below H18.out.b⟩ (fun hHeld => ?_)
              clear hK K hr18 R18 A18
              refine wpAnyH_take (i := 10) (oi := { dst := some 49, op := Op.build 26 #[(0, Operand.tmp 40), (1, Operand.tmp 48)], type := 26, pos := "outright.go:131", after := #[{ on := 1, ground := Ground.data }, { on := 9, ground := Ground.data }], guard := none }) (v := .agg (SC ⟨a, b, c, d, e, f, b18, n + 1, q18⟩)) rfl (by kernel_rfl) (by kernel_rfl) (by kernel_rfl) (fun _ _ _ h => h) (Or.inl ⟨by rfl, fun w _ => exec_bld rfl rfl rfl w⟩) (by assumption) ?_
              simp only [Act.put, List.setIfInBounds_toArray, List.set_cons_zero, List.set_cons_succ]
              refine wpAnyH_ready (rs := [12]) (by kernel_rfl) (by simp) ?_
              refine AllReadyH.cons rfl (fun K hK => ?_) ?_
              rotate_left
              · exact AllReadyH.nil
              obtain ⟨vz, hst, hW⟩ := H18.out.put a b c d e f
              have hst2 : (stS (.pointer (some ⟨v2.heap.size, 0, none⟩)) (.agg (SC ⟨a, b, c, d, e, f, b18, n + 1, q18⟩))).run Tryd.prog v18 = .ok () vz := hst
              go_simp
              go_wp2_with fail
              refine hK.out _ _ ⟨HS7.out.below hW.b, HX7.out.below hW.b⟩ (fun hHeld => ?_)
              clear hK K hst hst2
              refine wpAnyH_done (by kernel_rfl) ?_ _
              clear hHeld
              go_wp2_with fail
              go_meet
              exact ⟨_, b18, q18, rfl, hW⟩
          · go_simp
            obtain ⟨v20, hv20⟩ : ∃ v, v1.alloc (.cells #[.int .i64 0, .int .i64 0, .int .i64 0, .int .i64 0, .int .i64 0, .int .i64 0, .slice none 0 0] 26) = v := ⟨_, rfl⟩
            have H20 := hide (H1.out.alloc)
            rw [hv20] at H20
            refine hK.out _ (v1.alloc (.cells #[.int .i64 0, .int .i64 0, .int .i64 0, .int .i64 0, .int .i64 0, .int .i64 0, .slice none 0 0] 26)) (by rw [hv20]; exact ⟨HS7.out.below H20.out.b, HX7.out.below H20.out.b⟩) (fun hHeld => ?_)
            clear hK K
            rw [hv20]
            clear hv20
            refine wpAnyH_ready (rs := [5]) (by kernel_rfl) (by simp) ?_
            refine AllReadyH.cons rfl (fun K hK => ?_) ?_
            rotate_left
            · exact AllReadyH.nil
            obtain ⟨b21, q21, v21, hr21, R21, A21⟩ := H20.out.r.runsS (HO7.out.src.below H20.out.b) (by omega) 24
            rw [Nat.zero_add] at hr21 R21
            rw [List.nil_append] at R21
            have H21 := hide (H20.out.app R21 A21)
            refine step_appO (by rfl) (.tmp 41) (.tmp 43) (by rfl) (by rfl) (by rfl) hr21 ?_
            refine hK.out _ _ ⟨HS7.out.below H21.out.b, HX7.out.below H21.out.b⟩ (fun hHeld => ?_)
            clear hK K hr21 R21 A21
            refine wpAnyH_ready (rs := [7]) (by kernel_rfl) (by simp) ?_
            refine AllReadyH.cons rfl (fun K hK => ?_) ?_
            rotate_left
            · exact AllReadyH.nil
            go_simp
            go_wp2_with fail
            refine (HPl.out v21 (HU.out.on (HB7.out.trans (H21.out.b.mono HB7.out.size)))).mono ?_
            rintro r v22 ⟨rfl, bb22⟩
            have H22 := hide (H21.out.below bb22)
            refine hK.out _ _ ⟨HS7.out.below H22.out.b, HX7.out.below H22.out.b⟩ (fun hHeld => ?_)
            clear hK K bb22
            refine wpAnyH_ready (rs := [8]) (by kernel_rfl) (by simp) ?_
            refine AllReadyH.cons rfl (fun K hK => ?_) ?_
            rotate_left
            · exact AllReadyH.nil
            go_simp
            obtain ⟨v23, hv23⟩ : ∃ v, v22.alloc (.cells (OC po) 40) = v := ⟨_, rfl⟩
            have H23 := hide (H22.out.below (below_new v22 (.cells (OC po) 40)))
            have O23 := hide (OR.one v22 po)
            rw [hv23] at H23 O23
            refine hK.out _ (v22.alloc (.cells (OC po) 40)) (by rw [hv23]; exact ⟨HS7.out.below H23.out.b, HX7.out.below H23.out.b⟩) (fun hHeld => ?_)
            clear hK K
            rw [hv23]
            clear hv23
            refine wpAnyH_ready (rs := [9]) (by kernel_rfl) (by simp) ?_
            refine AllReadyH.cons rfl (fun K hK => ?_) ?_
            rotate_left
            · exact AllReadyH.nil
            obtain ⟨b24, q24, v24, hr24, R24, A24⟩ := H23.out.r.runsS O23.out.src (by omega) 24
            have H24 := hide (H23.out.app R24 A24)
            refine step_appO (by rfl) (.tmp 44) (.tmp 47) (by rfl) (by rfl) (by rfl) hr24 ?_
            refine hK.out _ _ ⟨HS7.out.below H24.out.b, HX7.out.below H24.out.b⟩ (fun hHeld => ?_)
            clear hK K hr24 R24 A24
            refine wpAnyH_take (i := 10) (oi := { dst := some 49, op := Op.build 26 #[(0, Operand.tmp 40), (1, Operand.tmp 48)], type := 26, pos := "outright.go:131", after := #[{ on := 1, ground := Ground.data }, { on := 9, ground := Ground.data }], guard := none }) (v := .agg (SC ⟨a, b, c, d, e, f, b24, n + 1, q24⟩)) rfl (by kernel_rfl) (by kernel_rfl) (by kernel_rfl) (fun _ _ _ h => h) (Or.inl ⟨by rfl, fun w _ => exec_bld rfl rfl rfl w⟩) (by assumption) ?_
            simp only [Act.put, List.setIfInBounds_toArray, List.set_cons_zero, List.set_cons_succ]
            refine wpAnyH_ready (rs := [12]) (by kernel_rfl) (by simp) ?_
            refine AllReadyH.cons rfl (fun K hK => ?_) ?_
            rotate_left
            · exact AllReadyH.nil
            obtain ⟨vz, hst, hW⟩ := H24.out.put a b c d e f
            have hst2 : (stS (.pointer (some ⟨v1.heap.size, 0, none⟩)) (.agg (SC ⟨a, b, c, d, e, f, b24, n + 1, q24⟩))).run Tryd.prog v24 = .ok () vz := hst
            go_simp
            go_wp2_with fail
            refine hK.out _ _ ⟨HS7.out.below hW.b, HX7.out.below hW.b⟩ (fun hHeld => ?_)
            clear hK K hst hst2
            refine wpAnyH_done (by kernel_rfl) ?_ _
            clear hHeld
            go_wp2_with fail
            go_meet
            exact ⟨_, b24, q24, rfl, hW⟩
        · go_simp
          obtain ⟨v26, hv26⟩ : ∃ v, w7.drew.alloc (.cells #[.int .i64 0, .int .i64 0, .int .i64 0, .int .i64 0, .int .i64 0, .int .i64 0, .slice none 0 0] 26) = v := ⟨_, rfl⟩
          have H26 := hide (H0.out.alloc)
          rw [hv26] at H26
          refine hK.out _ (w7.drew.alloc (.cells #[.int .i64 0, .int .i64 0, .int .i64 0, .int .i64 0, .int .i64 0, .int .i64 0, .slice none 0 0] 26)) (by rw [hv26]; exact ⟨HS7.out.below H26.out.b, HX7.out.below H26.out.b⟩) (fun hHeld => ?_)
          clear hK K
          rw [hv26]
          clear hv26
          refine wpAnyH_ready (rs := [2]) (by kernel_rfl) (by simp) ?_
          refine AllReadyH.cons rfl (fun K hK => ?_) ?_
          rotate_left
          · exact AllReadyH.nil
          go_simp
          obtain ⟨v27, hv27⟩ : ∃ v, v26.alloc (.cells #[] 40) = v := ⟨_, rfl⟩
          have H27 := hide (H26.out.lit)
          rw [hv27] at H27
          refine hK.out _ (v26.alloc (.cells #[] 40)) (by rw [hv27]; exact ⟨HS7.out.below H27.out.b, HX7.out.below H27.out.b⟩) (fun hHeld => ?_)
          clear hK K
          rw [hv27]
          clear hv27
          refine wpAnyH_ready (rs := [5]) (by kernel_rfl) (by simp) ?_
          refine AllReadyH.cons rfl (fun K hK => ?_) ?_
          rotate_left
          · exact AllReadyH.nil
          obtain ⟨b28, q28, v28, hr28, R28, A28⟩ := H27.out.r.runsS (HO7.out.src.below H27.out.b) (by omega) 24
          rw [Nat.zero_add] at hr28 R28
          rw [List.nil_append] at R28
          have H28 := hide (H27.out.app R28 A28)
          refine step_appO (by rfl) (.tmp 41) (.tmp 43) (by rfl) (by rfl) (by rfl) hr28 ?_
          refine hK.out _ _ ⟨HS7.out.below H28.out.b, HX7.out.below H28.out.b⟩ (fun hHeld => ?_)
          clear hK K hr28 R28 A28
          refine wpAnyH_ready (rs := [7]) (by kernel_rfl) (by simp) ?_
          refine AllReadyH.cons rfl (fun K hK => ?_) ?_
          rotate_left
          · exact AllReadyH.nil
          go_simp
          go_wp2_with fail
          refine (HPl.out v28 (HU.out.on (HB7.out.trans (H28.out.b.mono HB7.out.size)))).mono ?_
          rintro r v29 ⟨rfl, bb29⟩
          have H29 := hide (H28.out.below bb29)
          refine hK.out _ _ ⟨HS7.out.below H29.out.b, HX7.out.below H29.out.b⟩ (fun hHeld => ?_)
          clear hK K bb29
          refine wpAnyH_ready (rs := [8]) (by kernel_rfl) (by simp) ?_
          refine AllReadyH.cons rfl (fun K hK => ?_) ?_
          rotate_left
          · exact AllReadyH.nil
          go_simp
          obtain ⟨v30, hv30⟩ : ∃ v, v29.alloc (.cells (OC po) 40) = v := ⟨_, rfl⟩
          have H30 := hide (H29.out.below (below_new v29 (.cells (OC po) 40)))
          have O30 := hide (OR.one v29 po)
          rw [hv30] at H30 O30
          refine hK.out _ (v29.alloc (.cells (OC po) 40)) (by rw [hv30]; exact ⟨HS7.out.below H30.out.b, HX7.out.below H30.out.b⟩) (fun hHeld => ?_)
          clear hK K
          rw [hv30]
          clear hv30
          refine wpAnyH_ready (rs := [9]) (by kernel_rfl) (by simp) ?_
          refine AllReadyH.cons rfl (fun K hK => ?_) ?_
          rotate_left
          · exact AllReadyH.nil
          obtain ⟨b31, q31, v31, hr31, R31, A31⟩ := H30.out.r.runsS O30.out.src (by omega) 24
          have H31 := hide (H30.out.app R31 A31)
          refine step_appO (by rfl) (.tmp 44) (.tmp 47) (by rfl) (by rfl) (by rfl) hr31 ?_
          refine hK.out _ _ ⟨HS7.out.below H31.out.b, HX7.out.below H31.out.b⟩ (fun hHeld => ?_)
          clear hK K hr31 R31 A31
          refine wpAnyH_take (i := 10) (oi := { dst := some 49, op := Op.build 26 #[(0, Operand.tmp 40), (1, Operand.tmp 48)], type := 26, pos := "outright.go:131", after := #[{ on := 1, ground := Ground.data }, { on := 9, ground := Ground.data }], guard := none }) (v := .agg (SC ⟨a, b, c, d, e, f, b31, n + 1, q31⟩)) rfl (by kernel_rfl) (by kernel_rfl) (by kernel_rfl) (fun _ _ _ h => h) (Or.inl ⟨by rfl, fun w _ => exec_bld rfl rfl rfl w⟩) (by assumption) ?_
          simp only [Act.put, List.setIfInBounds_toArray, List.set_cons_zero, List.set_cons_succ]
          refine wpAnyH_ready (rs := [12]) (by kernel_rfl) (by simp) ?_
          refine AllReadyH.cons rfl (fun K hK => ?_) ?_
          rotate_left
          · exact AllReadyH.nil
          obtain ⟨vz, hst, hW⟩ := H31.out.put a b c d e f
          have hst2 : (stS (.pointer (some ⟨w7.heap.size, 0, none⟩)) (.agg (SC ⟨a, b, c, d, e, f, b31, n + 1, q31⟩))).run Tryd.prog v31 = .ok () vz := hst
          go_simp
          go_wp2_with fail
          refine hK.out _ _ ⟨HS7.out.below hW.b, HX7.out.below hW.b⟩ (fun hHeld => ?_)
          clear hK K hst hst2
          refine wpAnyH_done (by kernel_rfl) ?_ _
          clear hHeld
          go_wp2_with fail
          go_meet
          exact ⟨_, b31, q31, rfl, hW⟩
    case rest =>
      obtain ⟨g12, bo, cc, rfl, HW⟩ := hcut
      cases hq : parseOpP u with
      | some p =>
        have HPp : Hid (∀ v, Un v → Calls Tryd.prog 15 #[.string (bs u)] v fun r w' => r = .returned (.tuple #[.agg (OC p), .int .i64 0]) ∧ Below v.heap.size v w') := fun v uv => (parseOp_any u (by omega) v uv.t uv.s uv.e).mono fun r w' ⟨hA, hb⟩ => ⟨by unfold PoA at hA; rw [hq] at hA; exact hA, hb⟩
        have HP3 : Hid (∀ v, Un v → Calls Tryd.prog 9 #[.string (bs T ++ ⟨#[10]⟩ ++ bs u)] v fun r w' => (∃ so n sc, r = .returned (.tuple #[.agg (SC ⟨a, b, c, d, e, f, so, n, sc⟩), .int .i64 0, .int .i64 0]) ∧ OR w' so n sc (L ++ [p]) ∧ ∀ k, blk so = some k → v.heap.size ≤ k) ∧ Below v.heap.size v w') := fun v uv => by
          rw [bs_glue]
          exact parse_ok (more_op hp hq) (by simp; omega) hH v uv
        clear hq hp hH
        have hld1 := run_ldS (HT7.out.below HW.out.b)
        have hld2 := run_ldS HW.out.x
        have HBc := hide (HB7.out.trans (HW.out.b.mono HB7.out.size))
        go_wp2_with fail
        refine (equal_true a b c d e f so1 (n + 1) c1 bo (n + 1) cc (L ++ [po]) wc (HQ7.out.below HW.out.b).src HW.out.r.src (by omega)).mono ?_
        rintro r w8 ⟨rfl, b8⟩
        have HW8 := hide (HW.out.below b8)
        have HB8 := hide (HBc.out.trans (b8.mono HBc.out.size))
        clear hld1 hld2 b8 HBc HW
        go_wp2_with fail
        refine (HPp.out _ (HU.out.on HB8.out)).mono ?_
        rintro r w9 ⟨rfl, b9⟩
        obtain ⟨w10, hst, hp10, b10, -⟩ := madeO w9 p w9.heap.size rfl
        have hst2 : (stO (.pointer (some ⟨w9.heap.size, 0, none⟩)) (.agg (OC p))).run Tryd.prog (w9.alloc (.cells #[.int .i64 0, .int .i64 0, .int .i64 0, .int .i64 0, .string ⟨#[]⟩, .int .i64 0, .int .i64 0] 40)) = .ok () w10 := hst
        have bw9 := HB8.out.trans (b9.mono HB8.out.size)
        have HB10 := hide (bw9.trans (b10.mono bw9.size))
        have HW10 := hide ((HW8.out.below b9).below b10)
        have HG13 : Hid (w7.heap.size ≤ w9.heap.size) := Nat.le_trans HW8.out.b.size b9.size
        have HP10 := hide hp10
        clear bw9 hp10 hst b9 b10 HW8 HB8
        go_wp2_with fail
        refine (HP3.out _ (HU.out.on HB10.out)).mono ?_
        rintro r w11 ⟨⟨so3, n3, c3, rfl, hO3, hf3⟩, b11⟩
        have HW11 := hide (HW10.out.below b11)
        obtain ⟨w12, hst12, hT12, k12⟩ := sc_put (o := ⟨a, b, c, d, e, f, so3, n3, c3⟩) (HT7.out.below HW11.out.b)
        have hg10 : g10 < w7.heap.size := HT7.out.lt
        obtain ⟨hW12, hR12⟩ := HW11.out.old k12 hg10
        have bw11 := HB10.out.trans (b11.mono HB10.out.size)
        have HB12 : Hid (Below w.heap.size w w12) := bw11.trans (k12.below HGS.out.1 bw11.size)
        have hO12 : OR w12 so3 n3 c3 (L ++ [p]) := hO3.keep fun k hk => k12.gr.block k (hO3.lt k hk) (fun e => by have := Option.some.inj e; have := hf3 k hk; have := HW10.out.b.size; omega)
        have hP12 : OBox w12 w9.heap.size p := (k12.gr.block _ (HP10.out.below b11).lt (fun e => by have := Option.some.inj e; have := HG13.out; omega)).trans (HP10.out.below b11)
        obtain ⟨bb, w13, hbo, hst13, hR13, hA13⟩ := hR12.put n (by omega) p
        subst hbo
        rw [set_last L po p n HO7.out.len] at hR13
        have hc6 := hW12.c6
        have hlp := run_ldO hP12
        have hk := HW11.out.k bb rfl
        have hT13 : SBox w13 g10 ⟨a, b, c, d, e, f, so3, n3, c3⟩ := (hA13.grown.block g10 hT12.lt (fun e => by have : bb = g10 := Option.some.inj e.symm; omega)).trans hT12
        have hW13 : SBox w13 g12 ⟨a, b, c, d, e, f, some ⟨bb, 0, none⟩, n + 1, cc⟩ := (hA13.grown.block g12 hW12.lt (fun e => by have : bb = g12 := Option.some.inj e.symm; omega)).trans hW12
        have hO13 : OR w13 so3 n3 c3 (L ++ [p]) := hO12.keep fun k hk2 => hA13.grown.block k (hO12.lt k hk2) (fun e => by have e2 : bb = k := Option.some.inj e.symm; have := hf3 k hk2; have := (HW10.out.r).lt bb rfl; omega)
        have HB13 : Hid (Below w.heap.size w w13) := HB12.out.trans ⟨hA13.grown.os, hA13.grown.tape, hA13.grown.output, hA13.grown.size, fun k hk3 => hA13.grown.block k (Nat.lt_of_lt_of_le hk3 HB12.out.size) (fun e => by have e2 : bb = k := Option.some.inj e.symm; have := HGS.out.1; have := hk.1; omega)⟩
        have hl1 := run_ldS hT13
        have hl2 := run_ldS hW13
        have HO13 := hide hO13
        have HR13 := hide hR13
        have hn3 := hO13.len
        rw [List.length_append, HO7.out.len] at hn3
        have hn3b : n3 ≤ 1000000000000 := by simp at hn3; omega
        clear hO13 hR13 hA13 hT13 hW13 hW12 hR12 hO12 hT12 k12 hf3 hO3 hk hn3 bw11 b11 hP12
        go_wp2_with fail
        refine (equal_true a b c d e f so3 n3 c3 (some ⟨bb, 0, none⟩) (n + 1) cc (L ++ [p]) w13 HO13.out.src HR13.out.src hn3b).mono ?_
        rintro r w14 ⟨rfl, b14⟩
        go_wp2_with fail
        go_ret
        exact ⟨rfl, HB13.out.trans (b14.mono HB13.out.size)⟩
      | none =>
        by_cases hc : cnt10 u = 0
        · cases hsy : saysL u with
          | false =>
            have HPp : Hid (∀ v, Un v → Calls Tryd.prog 15 #[.string (bs u)] v fun r w' => r = .returned (.tuple #[.agg (OC sp0), .int .i64 17]) ∧ Below v.heap.size v w') := fun v uv => (parseOp_any u (by omega) v uv.t uv.s uv.e).mono fun r w' ⟨hA, hb⟩ => ⟨by unfold PoA at hA; rw [hq] at hA; exact hA, hb⟩
            have HP3 : Hid (∀ v, Un v → Calls Tryd.prog 9 #[.string (bs T ++ ⟨#[10]⟩ ++ bs u)] v fun r w' => (∃ so n sc, r = .returned (.tuple #[.agg (SC ⟨a, b, c, d, e, f, so, n, sc⟩), .int .i64 0, .int .i64 0]) ∧ OR w' so n sc L ∧ ∀ k, blk so = some k → v.heap.size ≤ k) ∧ Below v.heap.size v w') := fun v uv => by
              rw [bs_glue]
              exact parse_ok (more_no hp hc hsy) (by simp; omega) hH v uv
            have HLk := hide (fun v => look_any u (by omega) v)
            rw [hsy, hc] at HLk
            clear hq hc hsy hp hH
            have hld1 := run_ldS (HT7.out.below HW.out.b)
            have hld2 := run_ldS HW.out.x
            have HBc := hide (HB7.out.trans (HW.out.b.mono HB7.out.size))
            go_wp2_with fail
            refine (equal_true a b c d e f so1 (n + 1) c1 bo (n + 1) cc (L ++ [po]) wc (HQ7.out.below HW.out.b).src HW.out.r.src (by omega)).mono ?_
            rintro r w8 ⟨rfl, b8⟩
            have HW8 := hide (HW.out.below b8)
            have HB8 := hide (HBc.out.trans (b8.mono HBc.out.size))
            clear hld1 hld2 b8 HBc HW
            go_wp2_with fail
            refine (HPp.out _ (HU.out.on HB8.out)).mono ?_
            rintro r w9 ⟨rfl, b9⟩
            obtain ⟨w10, hst, hp10, b10, -⟩ := madeO w9 sp0 w9.heap.size rfl
            have hst2 : (stO (.pointer (some ⟨w9.heap.size, 0, none⟩)) (.agg (OC sp0))).run Tryd.prog (w9.alloc (.cells #[.int .i64 0, .int .i64 0, .int .i64 0, .int .i64 0, .string ⟨#[]⟩, .int .i64 0, .int .i64 0] 40)) = .ok () w10 := hst
            have bw9 := HB8.out.trans (b9.mono HB8.out.size)
            have HB10 := hide (bw9.trans (b10.mono bw9.size))
            have HW10 := hide ((HW8.out.below b9).below b10)
            have HG13 : Hid (w7.heap.size ≤ w9.heap.size) := Nat.le_trans HW8.out.b.size b9.size
            have HP10 := hide hp10
            clear bw9 hp10 hst b9 b10 HW8 HB8
            go_wp2_with fail
            refine (HP3.out _ (HU.out.on HB10.out)).mono ?_
            rintro r w11 ⟨⟨so3, n3, c3, rfl, hO3, hf3⟩, b11⟩
            have HW11 := hide (HW10.out.below b11)
            obtain ⟨w12, hst12, hT12, k12⟩ := sc_put (o := ⟨a, b, c, d, e, f, so3, n3, c3⟩) (HT7.out.below HW11.out.b)
            have hg10 : g10 < w7.heap.size := HT7.out.lt
            obtain ⟨hW12, hR12⟩ := HW11.out.old k12 hg10
            have bw11 := HB10.out.trans (b11.mono HB10.out.size)
            have HB12 : Hid (Below w.heap.size w w12) := bw11.trans (k12.below HGS.out.1 bw11.size)
            have hO12 : OR w12 so3 n3 c3 L := hO3.keep fun k hk => k12.gr.block k (hO3.lt k hk) (fun e => by have := Option.some.inj e; have := hf3 k hk; have := HW10.out.b.size; omega)
            have hS12 : SBox w12 g7 ⟨a, b, c, d, e, f, so, n, sc⟩ := (k12.gr.block g7 (HS7.out.below HW11.out.b).lt (fun e => by have := Option.some.inj e; have := HGS.out.2; omega)).trans (HS7.out.below HW11.out.b)
            have hQ12 : OR w12 so n sc L := (HO7.out.below HW11.out.b).keep fun k hk => k12.gr.block k ((HO7.out.below HW11.out.b).lt k hk) (fun e => by have := Option.some.inj e; exact HGO.out k hk this)
            have hl1 := run_ldS hT12
            have hl2 := run_ldS hS12
            have hn3 := hO12.len
            rw [HO7.out.len] at hn3
            have HO12 := hide hO12
            have HQ12 := hide hQ12
            clear hW12 hR12 hT12 k12 bw11 b11 hS12 hf3 hO3 hO12 hQ12
            subst hn3
            go_wp2_with fail
            refine (HLk.out _).mono ?_
            rintro r w13 ⟨rfl, rfl⟩
            go_wp2_with fail
            refine (equal_true a b c d e f so3 n c3 so n sc L w13 HO12.out.src HQ12.out.src (by omega)).mono ?_
            rintro r w14 ⟨rfl, b14⟩
            go_wp2_with fail
            go_ret
            exact ⟨rfl, HB12.out.trans (b14.mono HB12.out.size)⟩
          | true =>
            have HPp : Hid (∀ v, Un v → Calls Tryd.prog 15 #[.string (bs u)] v fun r w' => r = .returned (.tuple #[.agg (OC sp0), .int .i64 17]) ∧ Below v.heap.size v w') := fun v uv => (parseOp_any u (by omega) v uv.t uv.s uv.e).mono fun r w' ⟨hA, hb⟩ => ⟨by unfold PoA at hA; rw [hq] at hA; exact hA, hb⟩
            have HP3 : Hid (∀ v, Un v → Calls Tryd.prog 9 #[.string (bs T ++ ⟨#[10]⟩ ++ bs u)] v fun r w' => r = .returned (.tuple #[.agg (SC sc0), .int .i64 ((cnt10 T + 2 : Nat) : Int), .int .i64 17]) ∧ Below v.heap.size v w') := fun v uv => by
              rw [bs_glue]
              exact parse_no (more_bad hp hc hsy hq) (by simp; omega) v uv
            have HLk := hide (fun v => look_any u (by omega) v)
            rw [hsy, hc] at HLk
            have HLt := hide (fun v => look_any T (by omega) v)
            obtain ⟨ct, hct⟩ : ∃ ct, cnt10 T = ct := ⟨_, rfl⟩
            have hctb : ct ≤ 10000000000 := by have := List.countP_le_length (p := fun c => c == 10) (l := T); unfold cnt10 at hct; omega
            rw [hct] at HLt HP3
            clear hct
            clear hq hc hsy hp hH
            have hld1 := run_ldS (HT7.out.below HW.out.b)
            have hld2 := run_ldS HW.out.x
            have HBc := hide (HB7.out.trans (HW.out.b.mono HB7.out.size))
            go_wp2_with fail
            refine (equal_true a b c d e f so1 (n + 1) c1 bo (n + 1) cc (L ++ [po]) wc (HQ7.out.below HW.out.b).src HW.out.r.src (by omega)).mono ?_
            rintro r w8 ⟨rfl, b8⟩
            have HW8 := hide (HW.out.below b8)
            have HB8 := hide (HBc.out.trans (b8.mono HBc.out.size))
            clear hld1 hld2 b8 HBc HW
            go_wp2_with fail
            refine (HPp.out _ (HU.out.on HB8.out)).mono ?_
            rintro r w9 ⟨rfl, b9⟩
            obtain ⟨w10, hst, hp10, b10, -⟩ := madeO w9 sp0 w9.heap.size rfl
            have hst2 : (stO (.pointer (some ⟨w9.heap.size, 0, none⟩)) (.agg (OC sp0))).run Tryd.prog (w9.alloc (.cells #[.int .i64 0, .int .i64 0, .int .i64 0, .int .i64 0, .string ⟨#[]⟩, .int .i64 0, .int .i64 0] 40)) = .ok () w10 := hst
            have bw9 := HB8.out.trans (b9.mono HB8.out.size)
            have HB10 := hide (bw9.trans (b10.mono bw9.size))
            have HW10 := hide ((HW8.out.below b9).below b10)
            have HG13 : Hid (w7.heap.size ≤ w9.heap.size) := Nat.le_trans HW8.out.b.size b9.size
            have HP10 := hide hp10
            clear bw9 hp10 hst b9 b10 HW8 HB8
            go_wp2_with fail
            refine (HP3.out _ (HU.out.on HB10.out)).mono ?_
            rintro r w11 ⟨rfl, b11⟩
            have HW11 := hide (HW10.out.below b11)
            obtain ⟨w12, hst12, hT12, k12⟩ := sc_put (o := sc0) (HT7.out.below HW11.out.b)
            have hg10 : g10 < w7.heap.size := HT7.out.lt
            obtain ⟨hW12, hR12⟩ := HW11.out.old k12 hg10
            have bw11 := HB10.out.trans (b11.mono HB10.out.size)
            have HB12 : Hid (Below w.heap.size w w12) := bw11.trans (k12.below HGS.out.1 bw11.size)
            have hl1 := run_ldS hT12
            clear hW12 hR12 hT12 k12 bw11 b11
            go_wp2_with fail
            refine (HLk.out _).mono ?_
            rintro r w13 ⟨rfl, rfl⟩
            go_wp2_with fail
            refine (HLt.out _).mono ?_
            rintro r w13 ⟨rfl, rfl⟩
            go_wp2_with fail
            refine (equal_zero w13).mono ?_
            rintro r w14 ⟨rfl, b14⟩
            go_wp2_with fail
            go_ret
            exact ⟨rfl, HB12.out.trans (b14.mono HB12.out.size)⟩
        · have HPp : Hid (∀ v, Un v → Calls Tryd.prog 15 #[.string (bs u)] v fun r w' => r = .returned (.tuple #[.agg (OC sp0), .int .i64 17]) ∧ Below v.heap.size v w') := fun v uv => (parseOp_any u (by omega) v uv.t uv.s uv.e).mono fun r w' ⟨hA, hb⟩ => ⟨by unfold PoA at hA; rw [hq] at hA; exact hA, hb⟩
          have HP3 : Hid (∀ v, Un v → Calls Tryd.prog 9 #[.string (bs T ++ ⟨#[10]⟩ ++ bs u)] v fun r w' => (∃ m x y, r = .returned (.tuple #[.agg (SC m), .int .i64 x, .int .i64 y])) ∧ Below v.heap.size v w') := fun v uv => by
            rw [bs_glue]
            exact (parse_gen _ (by simp; omega) v uv).mono fun r w' ⟨⟨m, hm, _⟩, hb⟩ => ⟨⟨m, _, _, hm⟩, hb⟩
          have HLk := hide (fun v => look_any u (by omega) v)
          obtain ⟨cu, hcu⟩ : ∃ cu, cnt10 u = cu := ⟨_, rfl⟩
          obtain ⟨sy, hsy⟩ : ∃ sy, saysL u = sy := ⟨_, rfl⟩
          have hcub : cu ≤ 10000000000 := by have := List.countP_le_length (p := fun c => c == 10) (l := u); unfold cnt10 at hcu; omega
          have hcu0 : (0 : Int) < cu := by omega
          rw [hcu, hsy] at HLk
          clear hcu hsy
          clear hq hc hp hH
          have hld1 := run_ldS (HT7.out.below HW.out.b)
          have hld2 := run_ldS HW.out.x
          have HBc := hide (HB7.out.trans (HW.out.b.mono HB7.out.size))
          go_wp2_with fail
          refine (equal_true a b c d e f so1 (n + 1) c1 bo (n + 1) cc (L ++ [po]) wc (HQ7.out.below HW.out.b).src HW.out.r.src (by omega)).mono ?_
          rintro r w8 ⟨rfl, b8⟩
          have HW8 := hide (HW.out.below b8)
          have HB8 := hide (HBc.out.trans (b8.mono HBc.out.size))
          clear hld1 hld2 b8 HBc HW
          go_wp2_with fail
          refine (HPp.out _ (HU.out.on HB8.out)).mono ?_
          rintro r w9 ⟨rfl, b9⟩
          obtain ⟨w10, hst, hp10, b10, -⟩ := madeO w9 sp0 w9.heap.size rfl
          have hst2 : (stO (.pointer (some ⟨w9.heap.size, 0, none⟩)) (.agg (OC sp0))).run Tryd.prog (w9.alloc (.cells #[.int .i64 0, .int .i64 0, .int .i64 0, .int .i64 0, .string ⟨#[]⟩, .int .i64 0, .int .i64 0] 40)) = .ok () w10 := hst
          have bw9 := HB8.out.trans (b9.mono HB8.out.size)
          have HB10 := hide (bw9.trans (b10.mono bw9.size))
          have HW10 := hide ((HW8.out.below b9).below b10)
          have HG13 : Hid (w7.heap.size ≤ w9.heap.size) := Nat.le_trans HW8.out.b.size b9.size
          have HP10 := hide hp10
          clear bw9 hp10 hst b9 b10 HW8 HB8
          go_wp2_with fail
          refine (HP3.out _ (HU.out.on HB10.out)).mono ?_
          rintro r w11 ⟨⟨m, x, y, rfl⟩, b11⟩
          have HW11 := hide (HW10.out.below b11)
          obtain ⟨w12, hst12, hT12, k12⟩ := sc_put (o := m) (HT7.out.below HW11.out.b)
          have hg10 : g10 < w7.heap.size := HT7.out.lt
          obtain ⟨hW12, hR12⟩ := HW11.out.old k12 hg10
          have bw11 := HB10.out.trans (b11.mono HB10.out.size)
          have HB12 : Hid (Below w.heap.size w w12) := bw11.trans (k12.below HGS.out.1 bw11.size)
          clear hW12 hR12 hT12 k12 bw11 b11
          go_wp2_with fail
          refine (HLk.out _).mono ?_
          rintro r w13 ⟨rfl, rfl⟩
          go_wp2_with fail
          go_ret
          exact ⟨rfl, HB12.out⟩
theorem more_str (s t : ByteArray) (o : Sp) (w : World) (hs : s.size ≤ 10000000000) (ht : t.size ≤ 10000000000) (ho : Ok o) (hsk : o.sku.size ≤ 100000000) (hu : Un w) :
    Calls Tryd.prog 5 #[.string s, .agg (OC o), .string t] w fun r w' => r = .returned (.bool true) ∧ Below w.heap.size w w' := by
  have h := more_any s.data.toList t.data.toList o w (by rw [len_at]; exact hs) (by rw [len_at]; exact ht) ho hsk hu
  rw [bs_of, bs_of] at h
  exact h
end Go.Proofs.YtmemcnjabnpdmabDoor
