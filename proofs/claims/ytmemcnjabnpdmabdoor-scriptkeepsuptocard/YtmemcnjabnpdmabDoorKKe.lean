/- ScriptKeeps: the law. -/
import Derived.Test.YtmemcnjabnpdmabDoorKKb
import Derived.Test.YtmemcnjabnpdmabDoorKMo
import Derived.Test.YtmemcnjabnpdmabDoorKPp
import Derived.Test.YtmemcnjabnpdmabDoorKSp
namespace Go.Proofs.YtmemcnjabnpdmabDoor
open Go.RowKit T Y V
variable {w w' w2 : World} {g : Nat}
attribute [local go_sem] fold_OC
attribute [local go_sem ↓] ldO_eq stO_eq ldS_eq stS_eq ldHd_eq stHd_eq

theorem exec_bld5 {ρ : Operand → Value} {o : Oper} {a b c d e f : Int} {bo : Option Addr} {m k : Nat} (ho : o.op = .build 26 #[(0, .tmp 35), (1, .tmp 40)]) (h40 : ρ (.tmp 35) = .agg (HdC ⟨a, b, c, d, e, f⟩)) (h48 : ρ (.tmp 40) = .slice bo m k) (w : World) : (execOp ρ o).run Tryd.prog w = .ok (.value (.agg (SC ⟨a, b, c, d, e, f, bo, m, k⟩))) w := by
  have h := run_bldS a b c d e f bo m k w
  simp [execOp, ho, h40, h48, h, Result.andThen]
theorem kp_rows {w2 w4 w5 w7 : World} {b4 b5 b7 : Option Addr} {m c5 c7 : Nat} {X : List Sp} (A4 : Ap (w2.alloc (.cells #[] 40)) w4 (some ⟨w2.heap.size, 0, none⟩) b4) (A5 : Ap w4 w5 b4 b5) (R5 : OR w5 b5 m c5 X) (A7 : Ap (w5.alloc (.cells #[] 40)) w7 (some ⟨w5.heap.size, 0, none⟩) b7) (R7 : OR w7 b7 m c7 X) :
    Below w2.heap.size w2 w7 ∧ OR w7 b5 m c5 X ∧ (∀ k, blk b5 = some k → w2.heap.size ≤ k ∧ k < w5.heap.size) ∧ (∀ k, blk b7 = some k → w5.heap.size ≤ k ∧ k < w7.heap.size) ∧ w5.heap.size ≤ w7.heap.size ∧ w2.heap.size ≤ w5.heap.size := by
  have s3 : (w2.alloc (.cells #[] 40)).heap.size = w2.heap.size + 1 := by simp
  have s6 : (w5.alloc (.cells #[] 40)).heap.size = w5.heap.size + 1 := by simp
  have n4 : ∀ k, blk b4 = some k → w2.heap.size ≤ k := Ap.fresh A4 (fun k hk => by have : w2.heap.size = k := Option.some.inj hk; omega) (by omega)
  have z4 := A4.grown.size
  have z5 := A5.grown.size
  have z7 := A7.grown.size
  have n5 : ∀ k, blk b5 = some k → w2.heap.size ≤ k := Ap.fresh A5 n4 (by omega)
  have n7 : ∀ k, blk b7 = some k → w5.heap.size ≤ k := Ap.fresh A7 (fun k hk => by have : w5.heap.size = k := Option.some.inj hk; omega) (by omega)
  have e7 : ∀ k, k < w5.heap.size → w7.heap[k]? = w5.heap[k]? := fun k hk => (A7.grown.block k (by omega) (fun e => by have : w5.heap.size = k := Option.some.inj e.symm; omega)).trans (Below.heap_alloc w5 _ k hk)
  refine ⟨⟨?_, ?_, ?_, by omega, fun k hk => ?_⟩, R5.keep fun k hk => e7 k (R5.lt k hk), fun k hk => ⟨n5 k hk, R5.lt k hk⟩, fun k hk => ⟨n7 k hk, R7.lt k hk⟩, by omega, by omega⟩
  · exact (A7.grown.os.trans A5.grown.os).trans A4.grown.os
  · exact (A7.grown.tape.trans A5.grown.tape).trans A4.grown.tape
  · exact (A7.grown.output.trans A5.grown.output).trans A4.grown.output
  · rw [e7 k (by omega), A5.grown.block k (by omega) (fun e => by have := n4 k e.symm; omega), A4.grown.block k (by omega) (fun e => by have : w2.heap.size = k := Option.some.inj e.symm; omega)]
    exact Below.heap_alloc w2 _ k hk
theorem wrapI (x : Int) (h0 : -9223372036854775808 ≤ x) (h1 : x ≤ 9223372036854775807) : IntKind.i64.wrap x = x := by rw [IntKind.wrap_i64]; omega
theorem last0 {X : List Sp} {n : Nat} (h : X.length = n) {x y : Sp} : (X ++ [x, y]).getD n sp0 = x := by
  subst h
  simp [List.getD]
theorem last1 {X : List Sp} {n : Nat} (h : X.length = n) {x y : Sp} : (X ++ [x, y]).getD (n + 1) sp0 = y := by
  subst h
  simp [List.getD]
set_option maxRecDepth 100000 in
set_option maxHeartbeats 6400000 in
theorem keeps_any (a b c d e f : Int) (so : Option Addr) (n sc : Nat) (L : List Sp) (w : World) (h : ∀ n, n ∈ [a, b, c, d, e, f] → R64 n) (hS : OSrc w so n sc L) (hL : ∀ o, o ∈ L → Ok o) (hw : wtO L ≤ 1000000000) (hu : Un w) :
    Calls Tryd.prog 6 #[.agg (SC ⟨a, b, c, d, e, f, so, n, sc⟩)] w fun r w' => r = .returned (.bool true) ∧ Below w.heap.size w w' := by
  obtain ⟨w1, hw1⟩ : ∃ w1, w.alloc (.cells (SC ⟨a, b, c, d, e, f, so, n, sc⟩) 26) = w1 := ⟨_, rfl⟩
  have hx1 : SBox w1 w.heap.size ⟨a, b, c, d, e, f, so, n, sc⟩ := by rw [← hw1]; exact SBox_new w _
  have hb1 : Below w.heap.size w w1 := by rw [← hw1]; exact below_new _ _
  have hwl := wtO_len L
  have hnl := hS.len
  have hnb : n ≤ 10000000 := by omega
  have hnN : n + 2 ≤ 2199023255452 := by omega
  have HX := hide hx1
  have HB := hide hb1
  have HU := hide hu
  have HS := hide hS
  have HA := hide (fun v (h : Un v) => awake_any v h)
  obtain ⟨T, hT⟩ : ∃ T, printT [a, b, c, d, e, f] L = T := ⟨_, rfl⟩
  have HP : Hid (∀ v so n sc, OSrc v so n sc L → Un v → Calls Tryd.prog 8 #[.agg (SC ⟨a, b, c, d, e, f, so, n, sc⟩)] v fun r w' => r = .returned (.string (bs T)) ∧ Below v.heap.size v w') := fun v so n sc s u => by
    have := print_any a b c d e f so n sc L v h s hL (by omega) u.t u.s
    rw [hT] at this
    exact this
  have HQ : Hid (∀ v, Un v → Calls Tryd.prog 9 #[.string (bs T)] v fun r w' => (∃ so n sc, r = .returned (.tuple #[.agg (SC ⟨a, b, c, d, e, f, so, n, sc⟩), .int .i64 0, .int .i64 0]) ∧ OR w' so n sc (L.map plainP) ∧ ∀ k, blk so = some k → v.heap.size ≤ k) ∧ Below v.heap.size v w') := fun v u => by
    have hlen := printT_len h rfl hL
    rw [hT] at hlen
    have hp := parse_printT [a, b, c, d, e, f] rfl (fun n hn => ⟨(h n hn).lo, (h n hn).hi⟩) L hL
    rw [hT] at hp
    exact parse_ok hp (by omega) rfl v u
  obtain ⟨T2, hT2⟩ : ∃ T, printT [a, b, c, d, e, f] (rsL n) = T := ⟨_, rfl⟩
  have hw2 : wtO (rsL n) ≤ 2000000000 := by rw [rsL_wt]; omega
  have hL2 := rsL_ok n (by omega)
  have HPr : Hid (∀ v so m sc, OSrc v so m sc (rsL n) → Un v → Calls Tryd.prog 8 #[.agg (SC ⟨a, b, c, d, e, f, so, m, sc⟩)] v fun r w' => r = .returned (.string (bs T2)) ∧ Below v.heap.size v w') := fun v so m sc s u => by
    have := print_any a b c d e f so m sc (rsL n) v h s hL2 (by omega) u.t u.s
    rw [hT2] at this
    exact this
  have HQr : Hid (∀ v, Un v → Calls Tryd.prog 9 #[.string (bs T2)] v fun r w' => (∃ so n1 sc, r = .returned (.tuple #[.agg (SC ⟨a, b, c, d, e, f, so, n1, sc⟩), .int .i64 0, .int .i64 0]) ∧ OR w' so n1 sc (rsL n) ∧ ∀ k, blk so = some k → v.heap.size ≤ k) ∧ Below v.heap.size v w') := fun v u => by
    have hlen := printT_len h rfl hL2
    rw [hT2] at hlen
    have hp := parse_printT [a, b, c, d, e, f] rfl (fun n hn => ⟨(h n hn).lo, (h n hn).hi⟩) (rsL n) hL2
    rw [hT2, rsL_plain] at hp
    exact parse_ok hp (by omega) rfl v u
  clear hx1 hb1 hu hwl hnl hT2 hw2 hL2
  go_enter Tryd.func6, Tryd.ntmps6
  go_wp2_with fail
  refine (HA.out _ (HU.out.on HB.out)).mono ?_
  rintro r w2 ⟨rfl, b2⟩
  have hx2 := HX.out.below b2
  have hc6 := hx2.c6
  have HX2 := hide hx2
  have HB2 := hide (HB.out.trans (b2.mono HB.out.size))
  have HL3 := hide (OR.lit w2)
  have hc6' := cell?_old hc6 (.cells #[] 40)
  have HS3 := hide ((HS.out.below HB2.out).below (below_new w2 (.cells #[] 40)))
  have h0n : 0 + n ≤ 2199023255452 := by omega
  clear b2 hx2
  go_wp2_with (first | (at_builtin; refine HR4.out.app (L := [kd (-5), kd (-6)]) (m := 2) rfl rfl hnN rfl (.tmp 26) (.tmp 29) rfl rfl rfl ?_; intro b5 c5 w5 R5 A5; have HR5 := hide R5; have HA5 := hide A5; have HL6 := hide (OR.lit w5); have HO6 := hide (R5.src.below (below_new w5 (.cells #[] 40))); have h0m : 0 + (n + 2) ≤ 2199023255452 := (by omega); clear R5 A5) | (at_builtin; refine HL6.out.appS HO6.out h0m rfl (.tmp 31) (.tmp 32) rfl rfl rfl ?_; intro b7 c7 w7 R7 A7; rw [Nat.zero_add, List.nil_append] at R7; rw [Nat.zero_add]; have HR7 := hide R7; have HA7 := hide A7; clear R7 A7) | (at_builtin; refine HL3.out.appS HS3.out h0n rfl (.tmp 23) (.tmp 25) rfl rfl rfl ?_; intro b4 c4 w4 R4 A4; rw [Nat.zero_add, List.nil_append] at R4; rw [Nat.zero_add]; have HR4 := hide R4; have HA4 := hide A4; clear R4 A4))
  obtain ⟨bw7, hro, hk5, hk7, hz57, hz25⟩ := kp_rows HA4.out HA5.out HR5.out HA7.out HR7.out
  have HRo := hide hro
  have HX7 := hide (HX2.out.below bw7)
  have HB7 := hide (HB2.out.trans (bw7.mono HB2.out.size))
  have HK := hide (⟨hk5, hk7, hz57, hz25, HX2.out.lt⟩ : (∀ k, blk b5 = some k → w2.heap.size ≤ k ∧ k < w5.heap.size) ∧ (∀ k, blk b7 = some k → w5.heap.size ≤ k ∧ k < w7.heap.size) ∧ w5.heap.size ≤ w7.heap.size ∧ w2.heap.size ≤ w5.heap.size ∧ w.heap.size < w2.heap.size)
  obtain ⟨hroom, hmax, bb, hbb⟩ := hro.room (by omega)
  subst hbb
  have hnc : n ≤ c5 := by omega
  have hncI : (n : Int) ≤ c5 := by omega
  clear bw7 hro hk5 hk7 hz57 hz25 HA4 HA5 HA7 HR5 HR4 HL3 HL6 HO6 HS3 HX2 HB2 HX HB hc6 hc6' h0n h0m
  refine wp_region_held_drew (S := fun v => SBox v w.heap.size ⟨a, b, c, d, e, f, so, n, sc⟩) (by kernel_rfl) (HX7.out.below (below_drew1 _)) (fun hHeld => ?_)
  refine wpAnyH_take (i := 0) (oi := { dst := some 34, op := Op.fieldAddr 26 (Operand.tmp 1) 0, type := 0, pos := "outright.go:177", after := #[], guard := none }) (v := ?_) rfl (by kernel_rfl) (by kernel_rfl) (by kernel_rfl) (fun _ _ _ h => h) (Or.inl ⟨by rfl, ?_⟩) (by assumption) ?_
  rotate_left
  · (intro w hSw; (try dsimp only at hSw); go_simp); first | done | with_reducible rfl
  simp only [Act.put, List.setIfInBounds_toArray, List.set_cons_zero, List.set_cons_succ]
  refine wpAnyH_take (i := 1) (oi := { dst := some 35, op := Op.load 23 (Operand.tmp 34), type := 23, pos := "outright.go:177", after := #[{ on := 0, ground := Ground.data }], guard := none }) (v := ?_) rfl (by kernel_rfl) (by kernel_rfl) (by kernel_rfl) (fun _ _ _ h => h) (Or.inl ⟨by rfl, ?_⟩) (by assumption) ?_
  rotate_left
  · (intro w hSw; (try dsimp only at hSw); have hl := hSw.hdAt; go_simp); first | done | with_reducible rfl
  simp only [Act.put, List.setIfInBounds_toArray, List.set_cons_zero, List.set_cons_succ]
  refine wpAnyH_take (i := 2) (oi := { dst := some 36, op := Op.move (Operand.tmp 3), type := 24, pos := "outright.go:177", after := #[], guard := none }) (v := ?_) rfl (by kernel_rfl) (by kernel_rfl) (by kernel_rfl) (fun _ _ _ h => h) (Or.inl ⟨by rfl, ?_⟩) (by assumption) ?_
  rotate_left
  · (intro w hSw; (try dsimp only at hSw); go_simp); first | done | with_reducible rfl
  simp only [Act.put, List.setIfInBounds_toArray, List.set_cons_zero, List.set_cons_succ]
  refine wpAnyH_take (i := 3) (oi := { dst := some 37, op := Op.fieldAddr 26 (Operand.tmp 1) 1, type := 0, pos := "outright.go:177", after := #[], guard := none }) (v := ?_) rfl (by kernel_rfl) (by kernel_rfl) (by kernel_rfl) (fun _ _ _ h => h) (Or.inl ⟨by rfl, ?_⟩) (by assumption) ?_
  rotate_left
  · (intro w hSw; (try dsimp only at hSw); go_simp); first | done | with_reducible rfl
  simp only [Act.put, List.setIfInBounds_toArray, List.set_cons_zero, List.set_cons_succ]
  refine wpAnyH_take (i := 4) (oi := { dst := some 38, op := Op.load 24 (Operand.tmp 37), type := 24, pos := "outright.go:177", after := #[{ on := 3, ground := Ground.data }], guard := none }) (v := ?_) rfl (by kernel_rfl) (by kernel_rfl) (by kernel_rfl) (fun _ _ _ h => h) (Or.inl ⟨by rfl, ?_⟩) (by assumption) ?_
  rotate_left
  · (intro w hSw; (try dsimp only at hSw); have hl := hSw.c6; go_simp); first | done | with_reducible rfl
  simp only [Act.put, List.setIfInBounds_toArray, List.set_cons_zero, List.set_cons_succ]
  refine wpAnyH_take (i := 5) (oi := { dst := some 39, op := Op.call { callee := Callee.builtin Builtin.len, args := #[Operand.tmp 38], argTypes := #[24] }, type := 3, pos := "outright.go:177", after := #[{ on := 4, ground := Ground.data }], guard := none }) (v := ?_) rfl (by kernel_rfl) (by kernel_rfl) (by kernel_rfl) (fun _ _ _ h => h) (Or.inl ⟨by rfl, ?_⟩) (by assumption) ?_
  rotate_left
  · (intro w hSw; (try dsimp only at hSw); go_simp); first | done | with_reducible rfl
  simp only [Act.put, List.setIfInBounds_toArray, List.set_cons_zero, List.set_cons_succ]
  refine wpAnyH_take (i := 6) (oi := { dst := some 40, op := Op.slice 24 (Operand.tmp 36) none (some (Operand.tmp 39)) none, type := 24, pos := "outright.go:177", after := #[{ on := 2, ground := Ground.data }, { on := 5, ground := Ground.data }], guard := none }) (v := ?_) rfl (by kernel_rfl) (by kernel_rfl) (by kernel_rfl) (fun _ _ _ h => h) (Or.inl ⟨by rfl, ?_⟩) (by assumption) ?_
  rotate_left
  · (intro w hSw; (try dsimp only at hSw); go_simp); first | done | with_reducible rfl
  simp only [Act.put, List.setIfInBounds_toArray, List.set_cons_zero, List.set_cons_succ]
  refine wpAnyH_take (i := 7) (oi := { dst := some 41, op := Op.build 26 #[(0, Operand.tmp 35), (1, Operand.tmp 40)], type := 26, pos := "outright.go:177", after := #[{ on := 1, ground := Ground.data }, { on := 6, ground := Ground.data }], guard := none }) (v := .agg (SC ⟨a, b, c, d, e, f, some ⟨bb, 0, none⟩, n, c5⟩)) rfl (by kernel_rfl) (by kernel_rfl) (by kernel_rfl) (fun _ _ _ h => h) (Or.inl ⟨by rfl, fun w _ => exec_bld5 rfl rfl rfl w⟩) (by assumption) ?_
  simp only [Act.put, List.setIfInBounds_toArray, List.set_cons_zero, List.set_cons_succ]
  obtain ⟨w8, hst8, hG8, b8⟩ := madeS' w7.drew ⟨a, b, c, d, e, f, some ⟨bb, 0, none⟩, n, c5⟩
  have hst9 : (stS (.pointer (some ⟨w7.heap.size, 0, none⟩)) (.agg (SC ⟨a, b, c, d, e, f, some ⟨bb, 0, none⟩, n, c5⟩))).run Tryd.prog (w7.alloc (.cells #[.int .i64 0, .int .i64 0, .int .i64 0, .int .i64 0, .int .i64 0, .int .i64 0, .slice none 0 0] 26)).drew = .ok () w8 := hst8
  have HX8 := hide (((HX7.out.below (below_drew1 _)).below b8))
  refine wpAnyH_ready (rs := [8]) (by kernel_rfl) (by simp) ?_
  refine AllReadyH.cons rfl (fun K hK => ?_) ?_
  rotate_left
  · exact AllReadyH.nil
  go_simp
  refine hK.out _ _ ((HX7.out.below (below_drew1 _)).below (below_new w7.drew _)) (fun hHeld => ?_)
  clear hK K
  refine wpAnyH_ready (rs := [9]) (by kernel_rfl) (by simp) ?_
  refine AllReadyH.cons rfl (fun K hK => ?_) ?_
  rotate_left
  · exact AllReadyH.nil
  go_simp
  go_wp2_with fail
  refine hK.out _ _ HX8.out (fun hHeld => ?_)
  clear hK K
  refine wpAnyH_done (by kernel_rfl) ?_ _
  clear hHeld
  replace hG8 : SBox w8 w7.heap.size ⟨a, b, c, d, e, f, some ⟨bb, 0, none⟩, n, c5⟩ := hG8
  have HG8 := hide hG8
  have HB8 := hide (HB7.out.trans (((below_drew1 w7).trans b8).mono HB7.out.size))
  have HRo8 := hide ((HRo.out.below (below_drew1 w7)).below b8)
  have HRw8 := hide ((HR7.out.below (below_drew1 w7)).below b8)
  have hld8 := run_ldS hG8
  clear hG8 hst8 hst9
  go_wp2_with fail
  refine (HP.out _ (some ⟨bb, 0, none⟩) n c5 (HRo8.out.src.pre HS.out.len (by simp)) (HU.out.on HB8.out)).mono ?_
  rintro r w9 ⟨rfl, b9⟩
  have HB9 := hide (HB8.out.trans (b9.mono HB8.out.size))
  clear hld8
  go_wp2_with fail
  refine (HQ.out _ (HU.out.on HB9.out)).mono ?_
  rintro r w10 ⟨⟨so1, n1, c1, rfl, hO1, hf1⟩, b10⟩
  obtain ⟨w11, hst11, hS1, b11⟩ := madeS' w10 ⟨a, b, c, d, e, f, so1, n1, c1⟩
  have bw10 := HB9.out.trans (b10.mono HB9.out.size)
  have HB11 := hide (bw10.trans (b11.mono bw10.size))
  go_wp2_with fail
  refine (HQ.out _ (HU.out.on HB11.out)).mono ?_
  rintro r w12 ⟨⟨so2, n2, c2, rfl, hO2, hf2⟩, b12⟩
  obtain ⟨w13, hst13, hS2, b13⟩ := madeS' w12 ⟨a, b, c, d, e, f, so2, n2, c2⟩
  have bw12 := HB11.out.trans (b12.mono HB11.out.size)
  have HB13 := hide (bw12.trans (b13.mono bw12.size))
  have hx13 := ((((HX8.out.below b9).below b10).below b11).below b12).below b13
  have hld13 := run_ldS hx13
  have HX13 := hide hx13
  clear hx13
  go_wp2_with fail
  refine (plainS_any a b c d e f so n sc L w13 (HS.out.below HB13.out) (by omega) (HU.out.on HB13.out).s).mono ?_
  rintro r w14 ⟨so3, n3, c3, rfl, hO3, hf3, b14⟩
  obtain ⟨w15, hst15, hS3, b15⟩ := madeS' w14 ⟨a, b, c, d, e, f, so3, n3, c3⟩
  have bw14 := HB13.out.trans (b14.mono HB13.out.size)
  have HB15 := hide (bw14.trans (b15.mono bw14.size))
  have e1 := hO1.len
  have e2 := hO2.len
  have e3 := hO3.len
  rw [List.length_map, HS.out.len] at e1 e2 e3
  subst e1
  subst e2
  subst e3
  have h1 := (((hS1.below b12).below b13).below b14).below b15
  have h2 := (hS2.below b14).below b15
  have hl1 := run_ldS h1
  have hl2 := run_ldS h2
  have hl3 := run_ldS hS3
  have HO1 := hide (((((hO1.below b11).below b12).below b13).below b14).below b15)
  have HO2 := hide (((hO2.below b13).below b14).below b15)
  have HO3 := hide (hO3.below b15)
  clear hld13
  go_wp2_with fail
  refine (equal_true a b c d e f so1 n c1 so3 n c3 (L.map plainP) w15 HO1.out.src HO3.out.src (by omega)).mono ?_
  rintro r w16 ⟨rfl, b16⟩
  have hl4 := run_ldS (h2.below b16)
  have hl5 := run_ldS (hS3.below b16)
  go_wp2_with fail
  refine (equal_true a b c d e f so2 n c2 so3 n c3 (L.map plainP) w16 (HO2.out.below b16).src (HO3.out.below b16).src (by omega)).mono ?_
  rintro r w17 ⟨rfl, b17⟩
  have bu9 := b9.trans (b10.mono b9.size)
  have bu11 := bu9.trans (b11.mono bu9.size)
  have bu12 := bu11.trans (b12.mono bu11.size)
  have bu13 := bu12.trans (b13.mono bu12.size)
  have bu14 := bu13.trans (b14.mono bu13.size)
  have bu15 := bu14.trans (b15.mono bu14.size)
  have hKp : Kp w w15 a b c d e f so n sc bb c5 b7 c7 so1 n c1 so2 c2 so3 c3 w.heap.size w7.heap.size w10.heap.size w12.heap.size w14.heap.size (L ++ [kd (-5), kd (-6)]) (L ++ [kd (-5), kd (-6)]) (L.map plainP) (L.map plainP) := by
    obtain ⟨k5, k7, z57, z25, z0⟩ := HK.out
    have k5 := k5 bb rfl
    have z8 := HG8.out.lt
    have z9 := b9.size
    have z11 := hS1.lt
    have z12 := b12.size
    have z13 := hS2.lt
    have z14 := b14.size
    have z10 := b10.size
    refine ⟨HB15.out, (HX13.out.below b14).below b15, HG8.out.below bu15, h1, h2, hS3, HRo8.out.below bu15, HRw8.out.below bu15, HO1.out, HO2.out, HO3.out, ⟨⟨by omega, by omega, by omega, by omega, by omega, by omega⟩, fun e => by have := k7 _ e; omega, fun e => by have := hf1 _ e; omega, fun e => by have := hf2 _ e; omega, fun e => by have := hf3 _ e; omega⟩, fun k hk => ?_, ⟨by omega, by omega, by omega, by omega, by omega⟩, fun e => by have := k7 _ e; omega, fun e => by have := hf2 _ e; omega, fun e => by have := hf3 _ e; omega⟩
    have q1 := hf1 k hk
    have q2 := hO1.lt k hk
    exact ⟨⟨by omega, by omega, by omega, by omega, by omega, by omega⟩, fun e => by have := k7 _ e; omega, fun e => by have := hf2 _ e; omega, fun e => by have := hf3 _ e; omega⟩
  have HK17 := hide (hKp.below (b16.trans (b17.mono b16.size)))
  clear hKp bu9 bu11 bu12 bu13 bu14 bu15 hl1 hl2 hl3 hl4 hl5 h1 h2 hS1 hS2 hS3 hO1 hO2 hO3 hf1 hf2 hf3 bw10 bw12 bw14 hst11 hst13 hst15 b9 b10 b11 b12 b13 b14 b15 b16 b17 HG8 HX8 HX13 HRo8 HRw8 HO1 HO2 HO3 HB8 HB9 HB11 HB13 HB15 HK HX7 HB7 HRo HR7 b8 HQ HP HA
  go_wp2_with fail
  go_loopw [14] (fun t wr => ∃ i : Nat, i ≤ n + 2 ∧ t = .int .i64 (i : Int) ∧ Hid (Kp w wr a b c d e f so n sc bb c5 b7 c7 so1 n c1 so2 c2 so3 c3 w.heap.size w7.heap.size w10.heap.size w12.heap.size w14.heap.size (L ++ [kd (-5), kd (-6)]) (L ++ [kd (-5), kd (-6)]) (L.map plainP) (L.map plainP))) (fun t _ => n + 2 - (intOf t).toNat)
  case atStart => exact ⟨0, by omega, rfl, HK17⟩
  case round =>
    clear HK17
    obtain ⟨i, hi, rfl, HKr⟩ := hrel
    by_cases hlt : i < n + 2
    · obtain ⟨x0, e0, x⟩ := HKr.out.ro.at i hlt
      cases e0
      obtain ⟨b2, hb7, z⟩ := HKr.out.rv.at i hlt
      subst hb7
      obtain ⟨y, hy⟩ : ∃ y, (L ++ [kd (-5), kd (-6)]).getD i sp0 = y := ⟨_, rfl⟩
      rw [hy] at x z
      have hE : ∀ w, (Op.equalIn 10000 40 (.agg (OC y)) (.agg (OC y))).run Tryd.prog w = .ok true w := fun w => by rw [run_eqO, (eqO_iff _ _).2 rfl]
      have hkI : (i : Int) < (n : Int) + 2 := by omega
      have hkJ : (i : Int) < ((n + 2 : Nat) : Int) := by omega
      have HLx : Hid (∀ v, Below wr.heap.size wr v → (ldO (.pointer (some ⟨bb, i * 7, none⟩))).run Tryd.prog v = .ok (.agg (OC y)) v ∧ (ldO (.pointer (some ⟨b2, i * 7, none⟩))).run Tryd.prog v = .ok (.agg (OC y)) v) := fun v hv => ⟨run_laO (x.on hv), run_laO (z.on hv)⟩
      clear hy x z
      go_wp2_with fail
      refine wp_region_held_drew (S := fun v => (ldO (.pointer (some ⟨bb, i * 7, none⟩))).run Tryd.prog v = .ok (.agg (OC y)) v ∧ (ldO (.pointer (some ⟨b2, i * 7, none⟩))).run Tryd.prog v = .ok (.agg (OC y)) v) (by kernel_rfl) (HLx.out _ (below_drew1 _)) (fun hHeld => ?_)
      refine wpAnyH_take (i := 0) (oi := { dst := some 82, op := Op.move (Operand.tmp 3), type := 24, pos := "outright.go:186", after := #[], guard := none }) (v := ?_) rfl (by kernel_rfl) (by kernel_rfl) (by kernel_rfl) (fun _ _ _ h => h) (Or.inl ⟨by rfl, ?_⟩) (by assumption) ?_
      rotate_left
      · (intro w hSw; (try dsimp only at hSw); go_simp); first | done | with_reducible rfl
      simp only [Act.put, List.setIfInBounds_toArray, List.set_cons_zero, List.set_cons_succ]
      refine wpAnyH_take (i := 1) (oi := { dst := some 83, op := Op.move (Operand.tmp 14), type := 3, pos := "outright.go:186", after := #[], guard := none }) (v := ?_) rfl (by kernel_rfl) (by kernel_rfl) (by kernel_rfl) (fun _ _ _ h => h) (Or.inl ⟨by rfl, ?_⟩) (by assumption) ?_
      rotate_left
      · (intro w hSw; (try dsimp only at hSw); go_simp); first | done | with_reducible rfl
      simp only [Act.put, List.setIfInBounds_toArray, List.set_cons_zero, List.set_cons_succ]
      refine wpAnyH_take (i := 2) (oi := { dst := some 84, op := Op.indexAddr 24 (Operand.tmp 82) (Operand.tmp 83), type := 0, pos := "outright.go:186", after := #[{ on := 0, ground := Ground.data }, { on := 1, ground := Ground.data }], guard := none }) (v := ?_) rfl (by kernel_rfl) (by kernel_rfl) (by kernel_rfl) (fun _ _ _ h => h) (Or.inl ⟨by rfl, ?_⟩) (by assumption) ?_
      rotate_left
      · (intro w hSw; (try dsimp only at hSw); go_simp); first | done | with_reducible rfl
      simp only [Act.put, List.setIfInBounds_toArray, List.set_cons_zero, List.set_cons_succ]
      refine wpAnyH_take (i := 3) (oi := { dst := some 85, op := Op.load 40 (Operand.tmp 84), type := 40, pos := "outright.go:186", after := #[{ on := 2, ground := Ground.data }], guard := none }) (v := ?_) rfl (by kernel_rfl) (by kernel_rfl) (by kernel_rfl) (fun _ _ _ h => h) (Or.inl ⟨by rfl, ?_⟩) (by assumption) ?_
      rotate_left
      · (intro w hSw; (try dsimp only at hSw); have hl := hSw.1; go_simp); first | done | with_reducible rfl
      simp only [Act.put, List.setIfInBounds_toArray, List.set_cons_zero, List.set_cons_succ]
      refine wpAnyH_take (i := 4) (oi := { dst := some 86, op := Op.move (Operand.tmp 4), type := 24, pos := "outright.go:186", after := #[], guard := none }) (v := ?_) rfl (by kernel_rfl) (by kernel_rfl) (by kernel_rfl) (fun _ _ _ h => h) (Or.inl ⟨by rfl, ?_⟩) (by assumption) ?_
      rotate_left
      · (intro w hSw; (try dsimp only at hSw); go_simp); first | done | with_reducible rfl
      simp only [Act.put, List.setIfInBounds_toArray, List.set_cons_zero, List.set_cons_succ]
      refine wpAnyH_take (i := 5) (oi := { dst := some 87, op := Op.move (Operand.tmp 14), type := 3, pos := "outright.go:186", after := #[], guard := none }) (v := ?_) rfl (by kernel_rfl) (by kernel_rfl) (by kernel_rfl) (fun _ _ _ h => h) (Or.inl ⟨by rfl, ?_⟩) (by assumption) ?_
      rotate_left
      · (intro w hSw; (try dsimp only at hSw); go_simp); first | done | with_reducible rfl
      simp only [Act.put, List.setIfInBounds_toArray, List.set_cons_zero, List.set_cons_succ]
      refine wpAnyH_take (i := 6) (oi := { dst := some 88, op := Op.indexAddr 24 (Operand.tmp 86) (Operand.tmp 87), type := 0, pos := "outright.go:186", after := #[{ on := 4, ground := Ground.data }, { on := 5, ground := Ground.data }], guard := none }) (v := ?_) rfl (by kernel_rfl) (by kernel_rfl) (by kernel_rfl) (fun _ _ _ h => h) (Or.inl ⟨by rfl, ?_⟩) (by assumption) ?_
      rotate_left
      · (intro w hSw; (try dsimp only at hSw); go_simp); first | done | with_reducible rfl
      simp only [Act.put, List.setIfInBounds_toArray, List.set_cons_zero, List.set_cons_succ]
      refine wpAnyH_take (i := 7) (oi := { dst := some 89, op := Op.load 40 (Operand.tmp 88), type := 40, pos := "outright.go:186", after := #[{ on := 6, ground := Ground.data }], guard := none }) (v := ?_) rfl (by kernel_rfl) (by kernel_rfl) (by kernel_rfl) (fun _ _ _ h => h) (Or.inl ⟨by rfl, ?_⟩) (by assumption) ?_
      rotate_left
      · (intro w hSw; (try dsimp only at hSw); have hl := hSw.2; go_simp); first | done | with_reducible rfl
      simp only [Act.put, List.setIfInBounds_toArray, List.set_cons_zero, List.set_cons_succ]
      refine wpAnyH_take (i := 8) (oi := { dst := some 90, op := Op.binOp BinOp.neq 40 (Operand.tmp 85) (Operand.tmp 89) 40, type := 4, pos := "outright.go:186", after := #[{ on := 3, ground := Ground.data }, { on := 7, ground := Ground.data }], guard := none }) (v := ?_) rfl (by kernel_rfl) (by kernel_rfl) (by kernel_rfl) (fun _ _ _ h => h) (Or.inl ⟨by rfl, ?_⟩) (by assumption) ?_
      rotate_left
      · (intro w hSw; (try dsimp only at hSw); go_simp); first | done | with_reducible rfl
      simp only [Act.put, List.setIfInBounds_toArray, List.set_cons_zero, List.set_cons_succ]
      refine wpAnyH_done (by kernel_rfl) ?_ _
      clear hHeld
      go_wp2_with fail
      go_roundw
      case rel => exact ⟨i + 1, by omega, by go_num, HKr.out.below (below_drew1 _)⟩
      case measure => simp [intOf]; omega
    · have hkI : ¬ (i : Int) < (n : Int) + 2 := by omega
      have hkJ : ¬ (i : Int) < ((n + 2 : Nat) : Int) := by omega
      clear hi
      go_wp2_with fail
      have HK2 := HKr
      clear HKr hkI hkJ hlt
      go_loopw [15] (fun t wr => ∃ (i : Nat) (Y : List Sp), i ≤ n ∧ t = .int .i64 (i : Int) ∧ Hid (Kp w wr a b c d e f so n sc bb c5 b7 c7 so1 n c1 so2 c2 so3 c3 w.heap.size w7.heap.size w10.heap.size w12.heap.size w14.heap.size (L ++ [kd (-5), kd (-6)]) (L ++ [kd (-5), kd (-6)]) Y (L.map plainP))) (fun t _ => n - (intOf t).toNat)
      case atStart => exact ⟨0, _, by omega, rfl, HK2⟩
      case round =>
        clear HK2
        obtain ⟨i, Y, hi, rfl, HKr⟩ := hrel
        have d1 := HKr.out.x1.c6
        simp only at d1
        by_cases hlt : i < n
        · obtain ⟨b1, v2, hb1, hst, hR, hA⟩ := HKr.out.r1.put i hlt (kd (-1))
          subst hb1
          have hst2 : (stO (.pointer (some ⟨b1, i * 7, none⟩)) (.agg #[.int .i64 (-1), .int .i64 0, .int .i64 0, .int .i64 0, .string ⟨#[]⟩, .int .i64 0, .int .i64 0])).run Tryd.prog wr = .ok () v2 := hst
          have HK3 := hide ((HKr.out.grow hR hA).2 v2 (HKr.out.grow hR hA).1 (Or.inl rfl))
          have hkI : (i : Int) < n := by omega
          clear hst hR hA
          go_wp2_with fail
          go_roundw
          case rel => exact ⟨i + 1, _, by omega, by go_num, HK3⟩
          case measure => simp [intOf]; omega
        · have hkI : ¬ (i : Int) < n := by omega
          clear hi
          go_wp2_with fail
          have HK2 := HKr
          clear HKr hkI hlt d1
          go_loopw [16] (fun t wr => ∃ (i : Nat) (o1 : Option Addr) (m1 c1 : Nat) (Y : List Sp), i ≤ 16 ∧ m1 = n + i ∧ t = .int .i64 (i : Int) ∧ Hid (Kp w wr a b c d e f so n sc bb c5 b7 c7 o1 m1 c1 so2 c2 so3 c3 w.heap.size w7.heap.size w10.heap.size w12.heap.size w14.heap.size (L ++ [kd (-5), kd (-6)]) (L ++ [kd (-5), kd (-6)]) Y (L.map plainP))) (fun t _ => 16 - (intOf t).toNat)
          case atStart => exact ⟨0, _, _, _, _, by omega, rfl, rfl, HK2⟩
          case round =>
            clear HK2
            obtain ⟨i, o1, m1, c1, Y, hi, hm, rfl, HKr⟩ := hrel
            have Hm := hide hm
            have hmb : m1 + 1 ≤ 2199023255452 := by omega
            clear hm
            by_cases hlt : i < 16
            · have d1 := HKr.out.x1.c6
              simp only at d1
              have hkI : (i : Int) < 16 := by omega
              have HR1 := hide HKr.out.r1
              go_wp2_with (at_builtin; refine HR1.out.app (L := [kd (-2)]) (m := 1) rfl rfl hmb rfl (.tmp 108) (.tmp 110) rfl rfl rfl ?_; intro b2 q2 v2 R2 A2; obtain ⟨hx2, hG2⟩ := HKr.out.grow R2 A2; have d2 := hx2.c6; simp only at d2; obtain ⟨hs6, hfz⟩ := hx2.set6 b2 (m1 + 1) q2; have HK3 := hide (hG2 _ hs6 (Or.inr ((KG.of (Below.refl _ _) _).set 6 _))); clear R2 A2 hG2 hs6 hx2)
              go_roundw
              case rel => exact ⟨i + 1, _, _, _, _, by omega, by have := Hm.out; omega, by go_num, HK3⟩
              case measure => simp [intOf]; omega
            · have hkI : ¬ (i : Int) < 16 := by omega
              have HK2 := HKr
              have hl1 := run_ldS HKr.out.x2
              have hl2 := run_ldS HKr.out.x3
              clear hi HKr hlt hmb Hm
              go_wp2_with fail
              refine (equal_true a b c d e f so2 n c2 so3 n c3 (L.map plainP) wr HK2.out.r2.src HK2.out.r3.src (by omega)).mono ?_
              rintro r w18 ⟨rfl, b18⟩
              have HK4 := hide (HK2.out.below b18)
              clear hl1 hl2 b18 HK2 hkI
              go_wp2_with fail
              go_loopw [17] (fun t wr => ∃ i : Nat, i ≤ n ∧ t = .int .i64 (i : Int) ∧ Hid (Kp w wr a b c d e f so n sc bb c5 b7 c7 o1 m1 c1 so2 c2 so3 c3 w.heap.size w7.heap.size w10.heap.size w12.heap.size w14.heap.size ((List.range i).map rs ++ (L ++ [kd (-5), kd (-6)]).drop i) (L ++ [kd (-5), kd (-6)]) Y (L.map plainP))) (fun t _ => n - (intOf t).toNat)
              case atStart => exact ⟨0, by omega, rfl, by simpa using HK4⟩
              case round =>
                clear HK4
                obtain ⟨i, hi, rfl, HKr⟩ := hrel
                have d1 := HKr.out.xs.c6
                have d2 := HKr.out.xg.c6
                simp only at d1 d2
                by_cases hlt : i < n
                · obtain ⟨x0, v2, hb1, hst, hR, hA⟩ := HKr.out.ro.put i (by omega) (rs i)
                  cases hb1
                  have hst2 : (stO (.pointer (some ⟨bb, i * 7, none⟩)) (.agg #[.int .i64 15, .int .i64 (i : Int), .int .i64 0, .int .i64 0, .string ⟨#[]⟩, .int .i64 0, .int .i64 0])).run Tryd.prog wr = .ok () v2 := hst
                  rw [put_step _ rs i (by rw [List.length_append, HS.out.len]; omega)] at hR
                  have HK5 := hide (HKr.out.put0 hR hA)
                  have hkI : (i : Int) < n := by omega
                  clear hst hR hA
                  go_wp2_with fail
                  go_roundw
                  case rel => exact ⟨i + 1, by omega, by go_num, HK5⟩
                  case measure => simp [intOf]; omega
                · have hkI : ¬ (i : Int) < n := by omega
                  have hin : i = n := by omega
                  have HK5 : Hid (Kp w wr a b c d e f so n sc bb c5 b7 c7 o1 m1 c1 so2 c2 so3 c3 w.heap.size w7.heap.size w10.heap.size w12.heap.size w14.heap.size (rsL n ++ [kd (-5), kd (-6)]) (L ++ [kd (-5), kd (-6)]) Y (L.map plainP)) := by
                    have e : (List.range i).map rs ++ (L ++ [kd (-5), kd (-6)]).drop i = rsL n ++ [kd (-5), kd (-6)] := by
                      rw [hin, List.drop_append_of_le_length (by rw [HS.out.len]; omega), List.drop_eq_nil_of_le (by rw [HS.out.len]; omega)]
                      rfl
                    rw [← e]
                    exact HKr
                  have hld := run_ldS HKr.out.xg
                  have HP5 : Hid (Calls Tryd.prog 8 #[.agg (SC ⟨a, b, c, d, e, f, some ⟨bb, 0, none⟩, n, c5⟩)] wr fun r w' => r = .returned (.string (bs T2)) ∧ Below wr.heap.size wr w') := HPr.out wr _ _ _ (HK5.out.ro.src.pre (rsL_len n) (by simp)) (HU.out.on HK5.out.bl)
                  clear hi HKr hlt hin d2
                  go_wp2_with fail
                  refine HP5.out.mono ?_
                  rintro r w19 ⟨rfl, b19⟩
                  have HK6 := hide (HK5.out.below b19)
                  clear HP5 HK5 b19 d1 hld
                  go_wp2_with fail
                  refine (HQr.out _ (HU.out.on HK6.out.bl)).mono ?_
                  rintro r w20 ⟨⟨so4, n4, c4, rfl, hO4, -⟩, b20⟩
                  obtain ⟨w21, hst21, hS4, b21⟩ := madeS' w20 ⟨a, b, c, d, e, f, so4, n4, c4⟩
                  have e4 := hO4.len
                  rw [rsL_len] at e4
                  subst e4
                  have HK7 := hide ((HK6.out.below b20).below b21)
                  have HO4 := hide (hO4.below b21)
                  have d1 := HK7.out.xs.c6
                  have d2 := hS4.c6
                  simp only at d1 d2
                  have hl1 := run_ldS HK7.out.x2
                  have hl2 := run_ldS HK7.out.x3
                  have HS4 := hide hS4
                  clear hO4 hS4 b20 b21 HK6 hkI
                  go_wp2_with fail
                  refine (equal_true a b c d e f so2 n c2 so3 n c3 (L.map plainP) w21 HK7.out.r2.src HK7.out.r3.src (by omega)).mono ?_
                  rintro r w22 ⟨rfl, b22⟩
                  have HK8 := hide (HK7.out.below b22)
                  have HO8 := hide (HO4.out.below b22)
                  have d3 := (HS4.out.below b22).c6
                  have d4 := HK8.out.xs.c6
                  simp only at d3 d4
                  clear d1 d2 hl1 hl2 hst21 b22 HK7 HO4
                  go_wp2_with fail
                  go_loop [20] (fun t => ∃ i : Nat, i ≤ n ∧ t = .int .i64 (i : Int)) (fun t => n - (intOf t).toNat)
                  case atStart => exact ⟨0, by omega, rfl⟩
                  case round =>
                    obtain ⟨i, hi, rfl⟩ := hrel
                    by_cases hlt : i < n
                    · obtain ⟨x0, e0, x⟩ := HK8.out.ro.at i (by omega)
                      cases e0
                      obtain ⟨b2, hb2, z⟩ := HO8.out.at i hlt
                      subst hb2
                      have ex : (rsL n ++ [kd (-5), kd (-6)]).getD i sp0 = rs i := by
                        rw [← rsL_at n i hlt]
                        simp [List.getD, List.getElem?_append_left (show i < (rsL n).length by rw [rsL_len]; exact hlt)]
                      rw [ex] at x
                      rw [rsL_at n i hlt] at z
                      have hE : ∀ w, (Op.equalIn 10000 40 (.agg (OC (rs i))) (.agg #[.int .i64 15, .int .i64 (i : Int), .int .i64 0, .int .i64 0, .string ⟨#[]⟩, .int .i64 0, .int .i64 0])).run Tryd.prog w = .ok true w := fun w => by have h := run_eqO (rs i) (rs i) w; rw [(eqO_iff _ _).2 rfl] at h; exact h
                      have hkI : (i : Int) < n := by omega
                      have hkJ : (i : Int) < (n : Int) + 2 := by omega
                      have hx := run_laO x
                      have hz := run_laO z
                      clear x z ex
                      go_wp2_with fail
                      go_round
                      case rel => exact ⟨i + 1, by omega, by go_num⟩
                      case measure => simp [intOf]; omega
                    · have hkI : ¬ (i : Int) < n := by omega
                      clear hi hlt
                      obtain ⟨x0, e0, x⟩ := HK8.out.ro.at n (by omega)
                      cases e0
                      obtain ⟨x1, e1, y⟩ := HK8.out.ro.at (n + 1) (by omega)
                      cases e1
                      obtain ⟨b2, hb7, z⟩ := HK8.out.rv.at n (by omega)
                      subst hb7
                      obtain ⟨x3, e3, t⟩ := HK8.out.rv.at (n + 1) (by omega)
                      cases e3
                      rw [last0 (rsL_len n)] at x
                      rw [last1 (rsL_len n)] at y
                      rw [last0 HS.out.len] at z
                      rw [last1 HS.out.len] at t
                      obtain ⟨p, hp⟩ : ∃ p, kd (-5) = p := ⟨_, rfl⟩
                      obtain ⟨q, hq⟩ : ∃ q, kd (-6) = q := ⟨_, rfl⟩
                      rw [hp] at x z
                      rw [hq] at y t
                      have hE : ∀ y w, (Op.equalIn 10000 40 (.agg (OC y)) (.agg (OC y))).run Tryd.prog w = .ok true w := fun y w => by rw [run_eqO, (eqO_iff _ _).2 rfl]
                      have HLx : Hid (∀ v, Below w22.heap.size w22 v → SBox v w.heap.size ⟨a, b, c, d, e, f, so, n, sc⟩ ∧ (ldO (.pointer (some ⟨bb, n * 7, none⟩))).run Tryd.prog v = .ok (.agg (OC p)) v ∧ (ldO (.pointer (some ⟨bb, (n + 1) * 7, none⟩))).run Tryd.prog v = .ok (.agg (OC q)) v ∧ (ldO (.pointer (some ⟨b2, n * 7, none⟩))).run Tryd.prog v = .ok (.agg (OC p)) v ∧ (ldO (.pointer (some ⟨b2, (n + 1) * 7, none⟩))).run Tryd.prog v = .ok (.agg (OC q)) v) := fun v hv => ⟨HK8.out.xs.below hv, run_laO (x.on hv), run_laO (y.on hv), run_laO (z.on hv), run_laO (t.on hv)⟩
                      have hn1 : ((n : Int) + 1).toNat = n + 1 := by omega
                      have hwr : IntKind.i64.wrap ((n : Int) + 1) = (n : Int) + 1 := wrapI ((n : Int) + 1) (by omega) (by omega)
                      have hn0 : (0 : Int) ≤ (n : Int) + 1 := by omega
                      have hn2 : (n : Int) + 1 < (n : Int) + 2 := by omega
                      have hn3 : (n : Int) < (n : Int) + 2 := by omega
                      clear hp hq x y z t
                      go_wp2_with fail
                      refine wp_region_held_drew (S := fun v => SBox v w.heap.size ⟨a, b, c, d, e, f, so, n, sc⟩ ∧ (ldO (.pointer (some ⟨bb, n * 7, none⟩))).run Tryd.prog v = .ok (.agg (OC p)) v ∧ (ldO (.pointer (some ⟨bb, (n + 1) * 7, none⟩))).run Tryd.prog v = .ok (.agg (OC q)) v ∧ (ldO (.pointer (some ⟨b2, n * 7, none⟩))).run Tryd.prog v = .ok (.agg (OC p)) v ∧ (ldO (.pointer (some ⟨b2, (n + 1) * 7, none⟩))).run Tryd.prog v = .ok (.agg (OC q)) v) (by kernel_rfl) (HLx.out _ (below_drew1 _)) (fun hHeld => ?_)
                      refine wpAnyH_take (i := 0) (oi := { dst := some 178, op := Op.move (Operand.tmp 3), type := 24, pos := "outright.go:211", after := #[], guard := none }) (v := ?_) rfl (by kernel_rfl) (by kernel_rfl) (by kernel_rfl) (fun _ _ _ h => h) (Or.inl ⟨by rfl, ?_⟩) (by assumption) ?_
                      rotate_left
                      · (intro w hSw; (try dsimp only at hSw); go_simp); first | done | with_reducible rfl
                      simp only [Act.put, List.setIfInBounds_toArray, List.set_cons_zero, List.set_cons_succ]
                      refine wpAnyH_take (i := 1) (oi := { dst := some 179, op := Op.fieldAddr 26 (Operand.tmp 1) 1, type := 0, pos := "outright.go:211", after := #[], guard := none }) (v := ?_) rfl (by kernel_rfl) (by kernel_rfl) (by kernel_rfl) (fun _ _ _ h => h) (Or.inl ⟨by rfl, ?_⟩) (by assumption) ?_
                      rotate_left
                      · (intro w hSw; (try dsimp only at hSw); go_simp); first | done | with_reducible rfl
                      simp only [Act.put, List.setIfInBounds_toArray, List.set_cons_zero, List.set_cons_succ]
                      refine wpAnyH_take (i := 2) (oi := { dst := some 180, op := Op.load 24 (Operand.tmp 179), type := 24, pos := "outright.go:211", after := #[{ on := 1, ground := Ground.data }], guard := none }) (v := ?_) rfl (by kernel_rfl) (by kernel_rfl) (by kernel_rfl) (fun _ _ _ h => h) (Or.inl ⟨by rfl, ?_⟩) (by assumption) ?_
                      rotate_left
                      · (intro w hSw; (try dsimp only at hSw); have hl := hSw.1.c6; go_simp); first | done | with_reducible rfl
                      simp only [Act.put, List.setIfInBounds_toArray, List.set_cons_zero, List.set_cons_succ]
                      refine wpAnyH_take (i := 3) (oi := { dst := some 181, op := Op.call { callee := Callee.builtin Builtin.len, args := #[Operand.tmp 180], argTypes := #[24] }, type := 3, pos := "outright.go:211", after := #[{ on := 2, ground := Ground.data }], guard := none }) (v := ?_) rfl (by kernel_rfl) (by kernel_rfl) (by kernel_rfl) (fun _ _ _ h => h) (Or.inl ⟨by rfl, ?_⟩) (by assumption) ?_
                      rotate_left
                      · (intro w hSw; (try dsimp only at hSw); go_simp); first | done | with_reducible rfl
                      simp only [Act.put, List.setIfInBounds_toArray, List.set_cons_zero, List.set_cons_succ]
                      refine wpAnyH_take (i := 4) (oi := { dst := some 182, op := Op.indexAddr 24 (Operand.tmp 178) (Operand.tmp 181), type := 0, pos := "outright.go:211", after := #[{ on := 0, ground := Ground.data }, { on := 3, ground := Ground.data }], guard := none }) (v := ?_) rfl (by kernel_rfl) (by kernel_rfl) (by kernel_rfl) (fun _ _ _ h => h) (Or.inl ⟨by rfl, ?_⟩) (by assumption) ?_
                      rotate_left
                      · (intro w hSw; (try dsimp only at hSw); go_simp); first | done | with_reducible rfl
                      simp only [Act.put, List.setIfInBounds_toArray, List.set_cons_zero, List.set_cons_succ]
                      refine wpAnyH_take (i := 5) (oi := { dst := some 183, op := Op.load 40 (Operand.tmp 182), type := 40, pos := "outright.go:211", after := #[{ on := 4, ground := Ground.data }], guard := none }) (v := ?_) rfl (by kernel_rfl) (by kernel_rfl) (by kernel_rfl) (fun _ _ _ h => h) (Or.inl ⟨by rfl, ?_⟩) (by assumption) ?_
                      rotate_left
                      · (intro w hSw; (try dsimp only at hSw); have hl := hSw.2.1; go_simp); first | done | with_reducible rfl
                      simp only [Act.put, List.setIfInBounds_toArray, List.set_cons_zero, List.set_cons_succ]
                      refine wpAnyH_take (i := 6) (oi := { dst := some 184, op := Op.move (Operand.tmp 4), type := 24, pos := "outright.go:211", after := #[], guard := none }) (v := ?_) rfl (by kernel_rfl) (by kernel_rfl) (by kernel_rfl) (fun _ _ _ h => h) (Or.inl ⟨by rfl, ?_⟩) (by assumption) ?_
                      rotate_left
                      · (intro w hSw; (try dsimp only at hSw); go_simp); first | done | with_reducible rfl
                      simp only [Act.put, List.setIfInBounds_toArray, List.set_cons_zero, List.set_cons_succ]
                      refine wpAnyH_take (i := 7) (oi := { dst := some 185, op := Op.fieldAddr 26 (Operand.tmp 1) 1, type := 0, pos := "outright.go:211", after := #[], guard := none }) (v := ?_) rfl (by kernel_rfl) (by kernel_rfl) (by kernel_rfl) (fun _ _ _ h => h) (Or.inl ⟨by rfl, ?_⟩) (by assumption) ?_
                      rotate_left
                      · (intro w hSw; (try dsimp only at hSw); go_simp); first | done | with_reducible rfl
                      simp only [Act.put, List.setIfInBounds_toArray, List.set_cons_zero, List.set_cons_succ]
                      refine wpAnyH_take (i := 8) (oi := { dst := some 186, op := Op.load 24 (Operand.tmp 185), type := 24, pos := "outright.go:211", after := #[{ on := 7, ground := Ground.data }], guard := none }) (v := ?_) rfl (by kernel_rfl) (by kernel_rfl) (by kernel_rfl) (fun _ _ _ h => h) (Or.inl ⟨by rfl, ?_⟩) (by assumption) ?_
                      rotate_left
                      · (intro w hSw; (try dsimp only at hSw); have hl := hSw.1.c6; go_simp); first | done | with_reducible rfl
                      simp only [Act.put, List.setIfInBounds_toArray, List.set_cons_zero, List.set_cons_succ]
                      refine wpAnyH_take (i := 9) (oi := { dst := some 187, op := Op.call { callee := Callee.builtin Builtin.len, args := #[Operand.tmp 186], argTypes := #[24] }, type := 3, pos := "outright.go:211", after := #[{ on := 8, ground := Ground.data }], guard := none }) (v := ?_) rfl (by kernel_rfl) (by kernel_rfl) (by kernel_rfl) (fun _ _ _ h => h) (Or.inl ⟨by rfl, ?_⟩) (by assumption) ?_
                      rotate_left
                      · (intro w hSw; (try dsimp only at hSw); go_simp); first | done | with_reducible rfl
                      simp only [Act.put, List.setIfInBounds_toArray, List.set_cons_zero, List.set_cons_succ]
                      refine wpAnyH_take (i := 10) (oi := { dst := some 188, op := Op.indexAddr 24 (Operand.tmp 184) (Operand.tmp 187), type := 0, pos := "outright.go:211", after := #[{ on := 6, ground := Ground.data }, { on := 9, ground := Ground.data }], guard := none }) (v := ?_) rfl (by kernel_rfl) (by kernel_rfl) (by kernel_rfl) (fun _ _ _ h => h) (Or.inl ⟨by rfl, ?_⟩) (by assumption) ?_
                      rotate_left
                      · (intro w hSw; (try dsimp only at hSw); go_simp); first | done | with_reducible rfl
                      simp only [Act.put, List.setIfInBounds_toArray, List.set_cons_zero, List.set_cons_succ]
                      refine wpAnyH_take (i := 11) (oi := { dst := some 189, op := Op.load 40 (Operand.tmp 188), type := 40, pos := "outright.go:211", after := #[{ on := 10, ground := Ground.data }], guard := none }) (v := ?_) rfl (by kernel_rfl) (by kernel_rfl) (by kernel_rfl) (fun _ _ _ h => h) (Or.inl ⟨by rfl, ?_⟩) (by assumption) ?_
                      rotate_left
                      · (intro w hSw; (try dsimp only at hSw); have hl := hSw.2.2.2.1; go_simp); first | done | with_reducible rfl
                      simp only [Act.put, List.setIfInBounds_toArray, List.set_cons_zero, List.set_cons_succ]
                      refine wpAnyH_take (i := 12) (oi := { dst := some 190, op := Op.binOp BinOp.eql 40 (Operand.tmp 183) (Operand.tmp 189) 40, type := 4, pos := "outright.go:211", after := #[{ on := 5, ground := Ground.data }, { on := 11, ground := Ground.data }], guard := none }) (v := ?_) rfl (by kernel_rfl) (by kernel_rfl) (by kernel_rfl) (fun _ _ _ h => h) (Or.inl ⟨by rfl, ?_⟩) (by assumption) ?_
                      rotate_left
                      · (intro w hSw; (try dsimp only at hSw); go_simp); first | done | with_reducible rfl
                      simp only [Act.put, List.setIfInBounds_toArray, List.set_cons_zero, List.set_cons_succ]
                      refine wpAnyH_take (i := 13) (oi := { dst := some 191, op := Op.move (Operand.tmp 190), type := 4, pos := "outright.go:211", after := #[{ on := 12, ground := Ground.data }], guard := none }) (v := ?_) rfl (by kernel_rfl) (by kernel_rfl) (by kernel_rfl) (fun _ _ _ h => h) (Or.inl ⟨by rfl, ?_⟩) (by assumption) ?_
                      rotate_left
                      · (intro w hSw; (try dsimp only at hSw); go_simp); first | done | with_reducible rfl
                      simp only [Act.put, List.setIfInBounds_toArray, List.set_cons_zero, List.set_cons_succ]
                      refine wpAnyH_take (i := 14) (oi := { dst := some 192, op := Op.move (Operand.tmp 3), type := 24, pos := "outright.go:211", after := #[{ on := 13, ground := Ground.guard }], guard := some (13, true) }) (v := ?_) rfl (by kernel_rfl) (by kernel_rfl) (by kernel_rfl) (fun _ _ _ h => h) (Or.inl ⟨by rfl, ?_⟩) (by assumption) ?_
                      rotate_left
                      · (intro w hSw; (try dsimp only at hSw); go_simp); first | done | with_reducible rfl
                      simp only [Act.put, List.setIfInBounds_toArray, List.set_cons_zero, List.set_cons_succ]
                      refine wpAnyH_take (i := 15) (oi := { dst := some 193, op := Op.fieldAddr 26 (Operand.tmp 1) 1, type := 0, pos := "outright.go:211", after := #[{ on := 13, ground := Ground.guard }], guard := some (13, true) }) (v := ?_) rfl (by kernel_rfl) (by kernel_rfl) (by kernel_rfl) (fun _ _ _ h => h) (Or.inl ⟨by rfl, ?_⟩) (by assumption) ?_
                      rotate_left
                      · (intro w hSw; (try dsimp only at hSw); go_simp); first | done | with_reducible rfl
                      simp only [Act.put, List.setIfInBounds_toArray, List.set_cons_zero, List.set_cons_succ]
                      refine wpAnyH_take (i := 16) (oi := { dst := some 194, op := Op.load 24 (Operand.tmp 193), type := 24, pos := "outright.go:211", after := #[{ on := 15, ground := Ground.data }, { on := 13, ground := Ground.guard }], guard := some (13, true) }) (v := ?_) rfl (by kernel_rfl) (by kernel_rfl) (by kernel_rfl) (fun _ _ _ h => h) (Or.inl ⟨by rfl, ?_⟩) (by assumption) ?_
                      rotate_left
                      · (intro w hSw; (try dsimp only at hSw); have hl := hSw.1.c6; go_simp); first | done | with_reducible rfl
                      simp only [Act.put, List.setIfInBounds_toArray, List.set_cons_zero, List.set_cons_succ]
                      refine wpAnyH_take (i := 17) (oi := { dst := some 195, op := Op.call { callee := Callee.builtin Builtin.len, args := #[Operand.tmp 194], argTypes := #[24] }, type := 3, pos := "outright.go:211", after := #[{ on := 16, ground := Ground.data }, { on := 13, ground := Ground.guard }], guard := some (13, true) }) (v := ?_) rfl (by kernel_rfl) (by kernel_rfl) (by kernel_rfl) (fun _ _ _ h => h) (Or.inl ⟨by rfl, ?_⟩) (by assumption) ?_
                      rotate_left
                      · (intro w hSw; (try dsimp only at hSw); go_simp); first | done | with_reducible rfl
                      simp only [Act.put, List.setIfInBounds_toArray, List.set_cons_zero, List.set_cons_succ]
                      refine wpAnyH_take (i := 18) (oi := { dst := some 196, op := Op.binOp BinOp.add 3 (Operand.tmp 195) (Operand.const (Value.int IntKind.i64 1)) 3, type := 3, pos := "outright.go:211", after := #[{ on := 17, ground := Ground.data }, { on := 13, ground := Ground.guard }], guard := some (13, true) }) (v := ?_) rfl (by kernel_rfl) (by kernel_rfl) (by kernel_rfl) (fun _ _ _ h => h) (Or.inl ⟨by rfl, ?_⟩) (by assumption) ?_
                      rotate_left
                      · (intro w hSw; (try dsimp only at hSw); go_simp); first | done | with_reducible rfl
                      simp only [Act.put, List.setIfInBounds_toArray, List.set_cons_zero, List.set_cons_succ]
                      refine wpAnyH_take (i := 19) (oi := { dst := some 197, op := Op.indexAddr 24 (Operand.tmp 192) (Operand.tmp 196), type := 0, pos := "outright.go:211", after := #[{ on := 14, ground := Ground.data }, { on := 18, ground := Ground.data }, { on := 13, ground := Ground.guard }], guard := some (13, true) }) (v := ?_) rfl (by kernel_rfl) (by kernel_rfl) (by kernel_rfl) (fun _ _ _ h => h) (Or.inl ⟨by rfl, ?_⟩) (by assumption) ?_
                      rotate_left
                      · (intro w hSw; (try dsimp only at hSw); go_simp); first | done | with_reducible rfl
                      simp only [Act.put, List.setIfInBounds_toArray, List.set_cons_zero, List.set_cons_succ]
                      refine wpAnyH_take (i := 20) (oi := { dst := some 198, op := Op.load 40 (Operand.tmp 197), type := 40, pos := "outright.go:211", after := #[{ on := 19, ground := Ground.data }, { on := 13, ground := Ground.guard }], guard := some (13, true) }) (v := ?_) rfl (by kernel_rfl) (by kernel_rfl) (by kernel_rfl) (fun _ _ _ h => h) (Or.inl ⟨by rfl, ?_⟩) (by assumption) ?_
                      rotate_left
                      · (intro w hSw; (try dsimp only at hSw); have hl := hSw.2.2.1; go_simp); first | done | with_reducible rfl
                      simp only [Act.put, List.setIfInBounds_toArray, List.set_cons_zero, List.set_cons_succ]
                      refine wpAnyH_take (i := 21) (oi := { dst := some 199, op := Op.move (Operand.tmp 4), type := 24, pos := "outright.go:211", after := #[{ on := 13, ground := Ground.guard }], guard := some (13, true) }) (v := ?_) rfl (by kernel_rfl) (by kernel_rfl) (by kernel_rfl) (fun _ _ _ h => h) (Or.inl ⟨by rfl, ?_⟩) (by assumption) ?_
                      rotate_left
                      · (intro w hSw; (try dsimp only at hSw); go_simp); first | done | with_reducible rfl
                      simp only [Act.put, List.setIfInBounds_toArray, List.set_cons_zero, List.set_cons_succ]
                      refine wpAnyH_take (i := 22) (oi := { dst := some 200, op := Op.fieldAddr 26 (Operand.tmp 1) 1, type := 0, pos := "outright.go:211", after := #[{ on := 13, ground := Ground.guard }], guard := some (13, true) }) (v := ?_) rfl (by kernel_rfl) (by kernel_rfl) (by kernel_rfl) (fun _ _ _ h => h) (Or.inl ⟨by rfl, ?_⟩) (by assumption) ?_
                      rotate_left
                      · (intro w hSw; (try dsimp only at hSw); go_simp); first | done | with_reducible rfl
                      simp only [Act.put, List.setIfInBounds_toArray, List.set_cons_zero, List.set_cons_succ]
                      refine wpAnyH_take (i := 23) (oi := { dst := some 201, op := Op.load 24 (Operand.tmp 200), type := 24, pos := "outright.go:211", after := #[{ on := 22, ground := Ground.data }, { on := 13, ground := Ground.guard }], guard := some (13, true) }) (v := ?_) rfl (by kernel_rfl) (by kernel_rfl) (by kernel_rfl) (fun _ _ _ h => h) (Or.inl ⟨by rfl, ?_⟩) (by assumption) ?_
                      rotate_left
                      · (intro w hSw; (try dsimp only at hSw); have hl := hSw.1.c6; go_simp); first | done | with_reducible rfl
                      simp only [Act.put, List.setIfInBounds_toArray, List.set_cons_zero, List.set_cons_succ]
                      refine wpAnyH_take (i := 24) (oi := { dst := some 202, op := Op.call { callee := Callee.builtin Builtin.len, args := #[Operand.tmp 201], argTypes := #[24] }, type := 3, pos := "outright.go:211", after := #[{ on := 23, ground := Ground.data }, { on := 13, ground := Ground.guard }], guard := some (13, true) }) (v := ?_) rfl (by kernel_rfl) (by kernel_rfl) (by kernel_rfl) (fun _ _ _ h => h) (Or.inl ⟨by rfl, ?_⟩) (by assumption) ?_
                      rotate_left
                      · (intro w hSw; (try dsimp only at hSw); go_simp); first | done | with_reducible rfl
                      simp only [Act.put, List.setIfInBounds_toArray, List.set_cons_zero, List.set_cons_succ]
                      refine wpAnyH_take (i := 25) (oi := { dst := some 203, op := Op.binOp BinOp.add 3 (Operand.tmp 202) (Operand.const (Value.int IntKind.i64 1)) 3, type := 3, pos := "outright.go:211", after := #[{ on := 24, ground := Ground.data }, { on := 13, ground := Ground.guard }], guard := some (13, true) }) (v := ?_) rfl (by kernel_rfl) (by kernel_rfl) (by kernel_rfl) (fun _ _ _ h => h) (Or.inl ⟨by rfl, ?_⟩) (by assumption) ?_
                      rotate_left
                      · (intro w hSw; (try dsimp only at hSw); go_simp); first | done | with_reducible rfl
                      simp only [Act.put, List.setIfInBounds_toArray, List.set_cons_zero, List.set_cons_succ]
                      refine wpAnyH_take (i := 26) (oi := { dst := some 204, op := Op.indexAddr 24 (Operand.tmp 199) (Operand.tmp 203), type := 0, pos := "outright.go:211", after := #[{ on := 21, ground := Ground.data }, { on := 25, ground := Ground.data }, { on := 13, ground := Ground.guard }], guard := some (13, true) }) (v := ?_) rfl (by kernel_rfl) (by kernel_rfl) (by kernel_rfl) (fun _ _ _ h => h) (Or.inl ⟨by rfl, ?_⟩) (by assumption) ?_
                      rotate_left
                      · (intro w hSw; (try dsimp only at hSw); go_simp); first | done | with_reducible rfl
                      simp only [Act.put, List.setIfInBounds_toArray, List.set_cons_zero, List.set_cons_succ]
                      refine wpAnyH_take (i := 27) (oi := { dst := some 205, op := Op.load 40 (Operand.tmp 204), type := 40, pos := "outright.go:211", after := #[{ on := 26, ground := Ground.data }, { on := 13, ground := Ground.guard }], guard := some (13, true) }) (v := ?_) rfl (by kernel_rfl) (by kernel_rfl) (by kernel_rfl) (fun _ _ _ h => h) (Or.inl ⟨by rfl, ?_⟩) (by assumption) ?_
                      rotate_left
                      · (intro w hSw; (try dsimp only at hSw); have hl := hSw.2.2.2.2; go_simp); first | done | with_reducible rfl
                      simp only [Act.put, List.setIfInBounds_toArray, List.set_cons_zero, List.set_cons_succ]
                      refine wpAnyH_take (i := 28) (oi := { dst := some 206, op := Op.binOp BinOp.eql 40 (Operand.tmp 198) (Operand.tmp 205) 40, type := 4, pos := "outright.go:211", after := #[{ on := 20, ground := Ground.data }, { on := 27, ground := Ground.data }, { on := 13, ground := Ground.guard }], guard := some (13, true) }) (v := ?_) rfl (by kernel_rfl) (by kernel_rfl) (by kernel_rfl) (fun _ _ _ h => h) (Or.inl ⟨by rfl, ?_⟩) (by assumption) ?_
                      rotate_left
                      · (intro w hSw; (try dsimp only at hSw); go_simp); first | done | with_reducible rfl
                      simp only [Act.put, List.setIfInBounds_toArray, List.set_cons_zero, List.set_cons_succ]
                      refine wpAnyH_take (i := 29) (oi := { dst := some 207, op := Op.pick (Operand.tmp 191) (Operand.tmp 206) (Operand.const (Value.bool false)), type := 4, pos := "outright.go:211", after := #[{ on := 13, ground := Ground.data }, { on := 28, ground := Ground.data }], guard := none }) (v := ?_) rfl (by kernel_rfl) (by kernel_rfl) (by kernel_rfl) (fun _ _ _ h => h) (Or.inl ⟨by rfl, ?_⟩) (by assumption) ?_
                      rotate_left
                      · (intro w hSw; (try dsimp only at hSw); go_simp); first | done | with_reducible rfl
                      simp only [Act.put, List.setIfInBounds_toArray, List.set_cons_zero, List.set_cons_succ]
                      refine wpAnyH_take (i := 30) (oi := { dst := some 2, op := Op.assign (Operand.tmp 207), type := 4, pos := "outright.go:211", after := #[{ on := 29, ground := Ground.data }, { on := 13, ground := Ground.chain }, { on := 0, ground := Ground.phase }, { on := 1, ground := Ground.phase }, { on := 2, ground := Ground.phase }, { on := 3, ground := Ground.phase }, { on := 4, ground := Ground.phase }, { on := 5, ground := Ground.phase }, { on := 6, ground := Ground.phase }, { on := 7, ground := Ground.phase }, { on := 8, ground := Ground.phase }, { on := 9, ground := Ground.phase }, { on := 10, ground := Ground.phase }, { on := 11, ground := Ground.phase }, { on := 12, ground := Ground.phase }, { on := 13, ground := Ground.phase }, { on := 14, ground := Ground.phase }, { on := 15, ground := Ground.phase }, { on := 16, ground := Ground.phase }, { on := 17, ground := Ground.phase }, { on := 18, ground := Ground.phase }, { on := 19, ground := Ground.phase }, { on := 20, ground := Ground.phase }, { on := 21, ground := Ground.phase }, { on := 22, ground := Ground.phase }, { on := 23, ground := Ground.phase }, { on := 24, ground := Ground.phase }, { on := 25, ground := Ground.phase }, { on := 26, ground := Ground.phase }, { on := 27, ground := Ground.phase }, { on := 28, ground := Ground.phase }, { on := 29, ground := Ground.phase }], guard := none }) (v := ?_) rfl (by kernel_rfl) (by kernel_rfl) (by kernel_rfl) (fun _ _ _ h => h) (Or.inl ⟨by rfl, ?_⟩) (by assumption) ?_
                      rotate_left
                      · (intro w hSw; (try dsimp only at hSw); go_simp); first | done | with_reducible rfl
                      simp only [Act.put, List.setIfInBounds_toArray, List.set_cons_zero, List.set_cons_succ]
                      refine wpAnyH_done (by kernel_rfl) ?_ _
                      clear hHeld
                      go_wp2_with fail
                      go_ret
                      exact ⟨rfl, HK8.out.bl.trans ((below_drew1 _).mono HK8.out.bl.size)⟩
end Go.Proofs.YtmemcnjabnpdmabDoor
