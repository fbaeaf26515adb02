/- ScriptThere: the law. -/
import Derived.Test.YtmemcnjabnpdmaaDoorKPp
import Derived.Test.YtmemcnjabnpdmaaDoorKAw
import Derived.OrdersHeld
namespace Go.Proofs.YtmemcnjabnpdmaaDoor
open Go.RowKit T Y V
variable {w w' w2 : World} {g : Nat}
attribute [local go_sem ↓] ldO_eq stO_eq ldS_eq stS_eq ldHd_eq stHd_eq

theorem PaA.yes {h : List Int} {L : List Sp} {e : Ending} (A : PaA w w' (.ok h L) e) : ∃ so n c, e = .returned (.tuple #[.agg (SC (scOf (hdL h) so n c)), .int .i64 0, .int .i64 0]) ∧ OR w' so n c L ∧ ∀ k, blk so = some k → w.heap.size ≤ k := A
theorem printT_len {h : List Int} {L : List Sp} (hh : ∀ n, n ∈ h → R64 n) (hl : h.length = 6) (hL : ∀ o, o ∈ L → Ok o) : (printT h L).length ≤ 200 + wtO L := by
  have h1 := numsT_len hh
  have h2 := opsT_len hL
  unfold printT
  rw [List.length_append, List.length_append, List.length_append]
  have h3 : storeL.length = 5 := rfl
  have h4 : ([10] : List UInt8).length = 1 := rfl
  omega
set_option maxRecDepth 100000 in
set_option maxHeartbeats 3200000 in
theorem there_any (a b c d e f : Int) (so : Option Addr) (n sc : Nat) (L : List Sp) (w : World) (h : ∀ n, n ∈ [a, b, c, d, e, f] → R64 n) (hS : OSrc w so n sc L) (hL : ∀ o, o ∈ L → Ok o) (hw : wtO L ≤ 10000000000) (hu : Un w) :
    Calls Tryd.prog 7 #[.agg (SC ⟨a, b, c, d, e, f, so, n, sc⟩)] w fun r w' => r = .returned (.bool true) ∧ Below w.heap.size w w' := by
  obtain ⟨w1, hw1⟩ : ∃ w1, w.alloc (.cells (SC ⟨a, b, c, d, e, f, so, n, sc⟩) 32) = w1 := ⟨_, rfl⟩
  have hx1 : SBox w1 w.heap.size ⟨a, b, c, d, e, f, so, n, sc⟩ := by rw [← hw1]; exact SBox_new w _
  have hb1 : Below w.heap.size w w1 := by rw [← hw1]; exact below_new _ _
  have HX := hide hx1
  have HB := hide hb1
  have HU := hide hu
  have HS := hide hS
  have HA := hide (fun v (h : Un v) => awake_any v h)
  have hwl := wtO_len L
  have hnl := hS.len
  have Hn : Hid (n ≤ 1000000000000) := by show _ ≤ _; omega
  have HP : Hid (∀ v, OSrc v so n sc L → Un v → Calls Tryd.prog 17 #[.agg (SC ⟨a, b, c, d, e, f, so, n, sc⟩)] v fun r w' => r = .returned (.string (bs (printT [a, b, c, d, e, f] L))) ∧ Below v.heap.size v w') := fun v s u => print_any a b c d e f so n sc L v h s hL (by omega) u.t u.s
  have hpl := printT_len h rfl hL
  have hpp := parse_printT [a, b, c, d, e, f] rfl (fun n hn => ⟨(h n hn).lo, (h n hn).hi⟩) L hL
  have HQ : Hid (∀ v, Un v → Calls Tryd.prog 13 #[.string (bs (printT [a, b, c, d, e, f] L))] v fun r w' => (∃ so1 n1 c1, r = .returned (.tuple #[.agg (SC ⟨a, b, c, d, e, f, so1, n1, c1⟩), .int .i64 0, .int .i64 0]) ∧ OR w' so1 n1 c1 (L.map plainP)) ∧ Below v.heap.size v w') := fun v u => by
    refine (parse_any (printT [a, b, c, d, e, f] L) (by omega) v u).mono ?_
    rintro r w' ⟨hA, hb⟩
    rw [hpp] at hA
    obtain ⟨so1, n1, c1, hr, hO, -⟩ := PaA.yes hA
    exact ⟨⟨so1, n1, c1, hr, hO⟩, hb⟩
  have HLn : Hid (∀ m, (L.map plainP).length = m → m ≤ 1000000000000) := fun m hm => by rw [List.length_map] at hm; omega
  obtain ⟨s, hs⟩ : ∃ s, bs (printT [a, b, c, d, e, f] L) = s := ⟨_, rfl⟩
  rw [hs] at HP HQ
  clear hx1 hb1 hu hS hwl hnl hpl hpp hs h hL
  go_enter Tryd.func7, Tryd.ntmps7
  go_wp2_with (first | (go_at_call 8; refine (HA.out _ (HU.out.on HB.out)).mono ?_; rintro r w2 ⟨rfl, b2⟩; have hx2 := HX.out.below b2; have hld2 := run_ldS hx2; have HX2 := hide hx2; have HB2 := hide (HB.out.trans (b2.mono HB.out.size)); clear b2 hx2) | (go_at_call 17; refine (HP.out _ (HS.out.below HB2.out) (HU.out.on HB2.out)).mono ?_; rintro r w3 ⟨rfl, b3⟩; have HX3 := hide (HX2.out.below b3); have HB3 := hide (HB2.out.trans (b3.mono HB2.out.size)); clear b3) | (go_at_call 13; refine (HQ.out _ (HU.out.on HB3.out)).mono ?_; rintro r w4 ⟨⟨so1, n1, c1, rfl, hO4⟩, b4⟩; obtain ⟨w5, hst, hy5, hb5, -⟩ := madeS w4 ⟨a, b, c, d, e, f, so1, n1, c1⟩ w4.heap.size rfl; have hst' : (stS (.pointer (some ⟨w4.heap.size, 0, none⟩)) (.agg (SC ⟨a, b, c, d, e, f, so1, n1, c1⟩))).run Tryd.prog (w4.alloc (.cells #[.int .i64 0, .int .i64 0, .int .i64 0, .int .i64 0, .int .i64 0, .int .i64 0, .slice none 0 0] 32)) = .ok () w5 := hst; have HX5 := hide ((HX3.out.below b4).below hb5); have HY5 := hide hy5; have HO5 := hide (hO4.below hb5); have Hn1 := hide (HLn.out n1 hO4.len); have bw4 := HB3.out.trans (b4.mono HB3.out.size); have HB5 := hide (bw4.trans (hb5.mono bw4.size)); clear hst hy5 hb5 hO4 bw4))
  obtain ⟨g3, hg3⟩ : ∃ g3, w4.heap.size = g3 := ⟨_, rfl⟩
  rw [hg3] at HY5 ⊢
  clear hst' hld2 b4 hg3 HX3 HX2
  refine wp_region_held_drew (S := fun v => SBox v w.heap.size ⟨a, b, c, d, e, f, so, n, sc⟩ ∧ SBox v g3 ⟨a, b, c, d, e, f, so1, n1, c1⟩) (by kernel_rfl) (⟨HX5.out.below (below_drew1 _), HY5.out.below (below_drew1 _)⟩) (fun hHeld => ?_)
  refine wpAnyH_take (i := 0) (oi := { dst := some 15, op := Op.move (Operand.tmp 5), type := 33, pos := "outright.go:53", after := #[], guard := none }) (v := ?_) rfl (by kernel_rfl) (by kernel_rfl) (by kernel_rfl) (fun _ _ _ h => h) (Or.inl ⟨by rfl, ?_⟩) (by assumption) ?_
  rotate_left
  · (intro w hSw; (try dsimp only at hSw); go_simp); first | done | with_reducible rfl
  simp only [Act.put, List.setIfInBounds_toArray, List.set_cons_zero, List.set_cons_succ]
  refine wpAnyH_take (i := 1) (oi := { dst := some 16, op := Op.binOp BinOp.eql 33 (Operand.tmp 15) (Operand.const (Value.int IntKind.i64 0)) 33, type := 4, pos := "outright.go:53", after := #[{ on := 0, ground := Ground.data }], guard := none }) (v := ?_) rfl (by kernel_rfl) (by kernel_rfl) (by kernel_rfl) (fun _ _ _ h => h) (Or.inl ⟨by rfl, ?_⟩) (by assumption) ?_
  rotate_left
  · (intro w hSw; (try dsimp only at hSw); go_simp); first | done | with_reducible rfl
  simp only [Act.put, List.setIfInBounds_toArray, List.set_cons_zero, List.set_cons_succ]
  refine wpAnyH_take (i := 2) (oi := { dst := some 17, op := Op.move (Operand.tmp 16), type := 4, pos := "outright.go:53", after := #[{ on := 1, ground := Ground.data }], guard := none }) (v := ?_) rfl (by kernel_rfl) (by kernel_rfl) (by kernel_rfl) (fun _ _ _ h => h) (Or.inl ⟨by rfl, ?_⟩) (by assumption) ?_
  rotate_left
  · (intro w hSw; (try dsimp only at hSw); go_simp); first | done | with_reducible rfl
  simp only [Act.put, List.setIfInBounds_toArray, List.set_cons_zero, List.set_cons_succ]
  refine wpAnyH_take (i := 3) (oi := { dst := some 18, op := Op.move (Operand.tmp 4), type := 3, pos := "outright.go:53", after := #[{ on := 2, ground := Ground.guard }], guard := some (2, true) }) (v := ?_) rfl (by kernel_rfl) (by kernel_rfl) (by kernel_rfl) (fun _ _ _ h => h) (Or.inl ⟨by rfl, ?_⟩) (by assumption) ?_
  rotate_left
  · (intro w hSw; (try dsimp only at hSw); go_simp); first | done | with_reducible rfl
  simp only [Act.put, List.setIfInBounds_toArray, List.set_cons_zero, List.set_cons_succ]
  refine wpAnyH_take (i := 4) (oi := { dst := some 19, op := Op.binOp BinOp.eql 3 (Operand.tmp 18) (Operand.const (Value.int IntKind.i64 0)) 3, type := 4, pos := "outright.go:53", after := #[{ on := 3, ground := Ground.data }, { on := 2, ground := Ground.guard }], guard := some (2, true) }) (v := ?_) rfl (by kernel_rfl) (by kernel_rfl) (by kernel_rfl) (fun _ _ _ h => h) (Or.inl ⟨by rfl, ?_⟩) (by assumption) ?_
  rotate_left
  · (intro w hSw; (try dsimp only at hSw); go_simp); first | done | with_reducible rfl
  simp only [Act.put, List.setIfInBounds_toArray, List.set_cons_zero, List.set_cons_succ]
  refine wpAnyH_take (i := 5) (oi := { dst := some 20, op := Op.pick (Operand.tmp 17) (Operand.tmp 19) (Operand.const (Value.bool false)), type := 4, pos := "outright.go:53", after := #[{ on := 2, ground := Ground.data }, { on := 4, ground := Ground.data }], guard := none }) (v := ?_) rfl (by kernel_rfl) (by kernel_rfl) (by kernel_rfl) (fun _ _ _ h => h) (Or.inl ⟨by rfl, ?_⟩) (by assumption) ?_
  rotate_left
  · (intro w hSw; (try dsimp only at hSw); go_simp); first | done | with_reducible rfl
  simp only [Act.put, List.setIfInBounds_toArray, List.set_cons_zero, List.set_cons_succ]
  refine wpAnyH_take (i := 6) (oi := { dst := some 21, op := Op.move (Operand.tmp 20), type := 4, pos := "outright.go:53", after := #[{ on := 5, ground := Ground.data }, { on := 2, ground := Ground.chain }], guard := none }) (v := ?_) rfl (by kernel_rfl) (by kernel_rfl) (by kernel_rfl) (fun _ _ _ h => h) (Or.inl ⟨by rfl, ?_⟩) (by assumption) ?_
  rotate_left
  · (intro w hSw; (try dsimp only at hSw); go_simp); first | done | with_reducible rfl
  simp only [Act.put, List.setIfInBounds_toArray, List.set_cons_zero, List.set_cons_succ]
  refine wpAnyH_take (i := 7) (oi := { dst := some 22, op := Op.load 32 (Operand.tmp 3), type := 32, pos := "outright.go:53", after := #[{ on := 6, ground := Ground.guard }], guard := some (6, true) }) (v := ?_) rfl (by kernel_rfl) (by kernel_rfl) (by kernel_rfl) (fun _ _ _ h => h) (Or.inl ⟨by rfl, ?_⟩) (by assumption) ?_
  rotate_left
  · (intro w hSw; (try dsimp only at hSw); have hl := run_ldS hSw.2; go_simp); first | done | with_reducible rfl
  simp only [Act.put, List.setIfInBounds_toArray, List.set_cons_zero, List.set_cons_succ]
  refine wpAnyH_take (i := 8) (oi := { dst := some 23, op := Op.load 32 (Operand.tmp 1), type := 32, pos := "outright.go:53", after := #[{ on := 6, ground := Ground.guard }], guard := some (6, true) }) (v := ?_) rfl (by kernel_rfl) (by kernel_rfl) (by kernel_rfl) (fun _ _ _ h => h) (Or.inl ⟨by rfl, ?_⟩) (by assumption) ?_
  rotate_left
  · (intro w hSw; (try dsimp only at hSw); have hl := run_ldS hSw.1; go_simp); first | done | with_reducible rfl
  simp only [Act.put, List.setIfInBounds_toArray, List.set_cons_zero, List.set_cons_succ]
  have HBd := hide (HB5.out.trans ((below_drew1 w5).mono HB5.out.size))
  have HXd := hide (HX5.out.below (below_drew1 w5))
  have HYd := hide (HY5.out.below (below_drew1 w5))
  have HOd := hide (HO5.out.below (below_drew1 w5))
  refine wpAnyH_ready (rs := [9]) (by kernel_rfl) (by simp) ?_
  refine AllReadyH.cons rfl (fun K hK => ?_) ?_
  rotate_left
  · exact AllReadyH.nil
  go_simp
  go_wp2_with fail
  refine (plainS_any a b c d e f so n sc L w5.drew (HS.out.below HBd.out) Hn.out (HU.out.on HBd.out).s).mono ?_
  rintro r w6 ⟨so2, n2, c2, rfl, hO6, -, b6⟩
  have HX6 := hide (HXd.out.below b6)
  have HY6 := hide (HYd.out.below b6)
  have HB6 := hide (HBd.out.trans (b6.mono HBd.out.size))
  have HQ6 := hide (HOd.out.below b6)
  have HO6 := hide hO6
  refine hK.out _ _ ⟨HX6.out, HY6.out⟩ (fun hHeld => ?_)
  clear hK K hO6
  refine wpAnyH_ready (rs := [10]) (by kernel_rfl) (by simp) ?_
  refine AllReadyH.cons rfl (fun K hK => ?_) ?_
  rotate_left
  · exact AllReadyH.nil
  go_simp
  go_wp2_with fail
  refine (equal_true a b c d e f so1 n1 c1 so2 n2 c2 (L.map plainP) w6 HQ6.out.src HO6.out.src Hn1.out).mono ?_
  rintro r w7 ⟨rfl, b7⟩
  refine hK.out _ _ ⟨HX6.out.below b7, HY6.out.below b7⟩ (fun hHeld => ?_)
  clear hK K
  refine wpAnyH_take (i := 11) (oi := { dst := some 26, op := Op.pick (Operand.tmp 21) (Operand.tmp 25) (Operand.const (Value.bool false)), type := 4, pos := "outright.go:53", after := #[{ on := 6, ground := Ground.data }, { on := 10, ground := Ground.data }], guard := none }) (v := ?_) rfl (by kernel_rfl) (by kernel_rfl) (by kernel_rfl) (fun _ _ _ h => h) (Or.inl ⟨by rfl, ?_⟩) (by assumption) ?_
  rotate_left
  · (intro w hSw; (try dsimp only at hSw); go_simp); first | done | with_reducible rfl
  simp only [Act.put, List.setIfInBounds_toArray, List.set_cons_zero, List.set_cons_succ]
  refine wpAnyH_take (i := 12) (oi := { dst := some 2, op := Op.assign (Operand.tmp 26), type := 4, pos := "outright.go:53", after := #[{ on := 11, ground := Ground.data }, { on := 10, ground := Ground.chain }, { on := 0, ground := Ground.phase }, { on := 1, ground := Ground.phase }, { on := 2, ground := Ground.phase }, { on := 3, ground := Ground.phase }, { on := 4, ground := Ground.phase }, { on := 5, ground := Ground.phase }, { on := 6, ground := Ground.phase }, { on := 7, ground := Ground.phase }, { on := 8, ground := Ground.phase }, { on := 9, ground := Ground.phase }, { on := 10, ground := Ground.phase }, { on := 11, ground := Ground.phase }], guard := none }) (v := ?_) rfl (by kernel_rfl) (by kernel_rfl) (by kernel_rfl) (fun _ _ _ h => h) (Or.inl ⟨by rfl, ?_⟩) (by assumption) ?_
  rotate_left
  · (intro w hSw; (try dsimp only at hSw); go_simp); first | done | with_reducible rfl
  simp only [Act.put, List.setIfInBounds_toArray, List.set_cons_zero, List.set_cons_succ]
  refine wpAnyH_done (by kernel_rfl) ?_ _
  clear hHeld
  go_wp2_with fail
  go_ret
  exact ⟨rfl, HB6.out.trans (b7.mono HB6.out.size)⟩
end Go.Proofs.YtmemcnjabnpdmaaDoor
