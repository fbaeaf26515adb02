/- line of the reference. -/
import Derived.Test.YtmemcnjabnpdmaaDoorJWo
import Derived.Test.YtmemcnjabnpdmaaDoorJSk
import Derived.Test.YtmemcnjabnpdmaaDoorJGt
import Derived.OrdersHeld
namespace Go.Proofs.YtmemcnjabnpdmaaDoor
open Go.RowKit T Y
variable {w w' w2 : World} {g : Nat}
attribute [local go_sem ↓] ldO_eq stO_eq
/-- a row that grows beside a step -/
structure Lw (w v : World) (g : Nat) (o : Sp) (ao bo : Option Addr) (m c : Nat) (Z : List Int) : Prop where
  r : BR v bo m c Z
  x : OBox v g o
  a : Ap w v ao bo
  ng : blk bo ≠ some g
theorem Y.Ap.low {ao bo : Option Addr} {v : World} (h : Ap w v ao bo) (hb : Below v.heap.size v w') : Ap w w' ao bo :=
  ⟨⟨hb.os.trans h.grown.os, hb.tape.trans h.grown.tape, hb.output.trans h.grown.output, Nat.le_trans h.grown.size hb.size, fun i hi hne => (hb.block i (Nat.lt_of_lt_of_le hi h.grown.size)).trans (h.grown.block i hi hne)⟩, h.lies⟩
theorem BR_below {ao : Option Addr} {n c : Nat} {Z : List Int} (h : BR w ao n c Z) (hb : Below w.heap.size w w') : BR w' ao n c Z := h.keep fun k e => hb.block k (h.lt k e)
theorem Lw.on {o : Sp} {ao bo : Option Addr} {m c : Nat} {Z : List Int} {v : World} (h : Lw w v g o ao bo m c Z) (hb : Below v.heap.size v w') : Lw w w' g o ao bo m c Z :=
  ⟨BR_below h.r hb, h.x.below hb, h.a.low hb, h.ng⟩
theorem Lw.app {o : Sp} {ao bo b2 : Option Addr} {m c m2 c2 : Nat} {Z Z2 : List Int} {v : World} (h : Lw w v g o ao bo m c Z) (R : BR w2 b2 m2 c2 Z2) (A : Ap v w2 bo b2) : Lw w w2 g o ao b2 m2 c2 Z2 := by
  refine ⟨R, (A.grown.block g h.x.lt (fun e => h.ng e.symm)).trans h.x, h.a.trans A, fun e => ?_⟩
  rcases A.lies with e2 | ⟨j, e2, hj⟩
  · exact h.ng (e2 ▸ e)
  · rw [e2] at e
    have := Option.some.inj e
    have := h.x.lt
    omega
theorem letters : ∀ i, i < 17 → ∀ f ∈ (shp.getD i ([], [])).2, f = 107 ∨ f = 114 ∨ f = 99 ∨ f = 116 ∨ f = 115 ∨ f = 113 ∨ f = 110 := by decide
theorem cap_get (o : Sp) (f : UInt8) (h : f = 107 ∨ f = 114 ∨ f = 99 ∨ f = 116 ∨ f = 115 ∨ f = 113 ∨ f = 110) :
    (((f - 32).toNat : Int) == 83) = decide (f = 115) ∧ (f ≠ 115 → gtN o (f - 32) = fdN o f ∧ fdT o f = num (fdN o f)) ∧ (f = 115 → fdT o f = skT o.sku.data.toList) := by
  rcases h with rfl | rfl | rfl | rfl | rfl | rfl | rfl
  all_goals exact ⟨by decide, fun h => by first | exact absurd rfl h | exact ⟨rfl, rfl⟩, fun h => by first | exact absurd h (by decide) | rfl⟩
theorem Ok.part {o : Sp} (h : Ok o) (k : Nat) : (fdsT o ((fdsL o.kind).take k)).length ≤ 16 * o.sku.size + 124 := by
  have h1 := (fds_small (kdN o.kind) (kdN_lt o.kind)).1
  have h2 := h.fds ((fdsL o.kind).take k)
  have h3 : ((fdsL o.kind).take k).length ≤ 4 := by rw [List.length_take]; have : (fdsL o.kind).length ≤ 4 := h1; omega
  have h5 : ((fdsL o.kind).take k).length * (4 * o.sku.size + 31) ≤ 4 * (4 * o.sku.size + 31) := Nat.mul_le_mul_right _ h3
  omega
set_option maxRecDepth 100000 in
set_option maxHeartbeats 3200000 in
theorem line_any (ao : Option Addr) (n c : Nat) (Z : List Int) (o : Sp) (w : World) (h : BR w ao n c Z) (hn : n ≤ 50000000000000) (ho : Ok o) :
    Calls Tryd.prog 26 #[.slice ao n c, .agg (OC o)] w fun r w' => ∃ bo m cc, r = .returned (.slice bo m cc) ∧ BR w' bo m cc (Z ++ nI (opT o)) ∧ Ap w w' ao bo := by
  obtain ⟨w1, hw1⟩ : ∃ w1, w.alloc (.cells (OC o) 23) = w1 := ⟨_, rfl⟩
  have HP1 : Hid (Lw w w1 w.heap.size o ao ao n c Z) := by
    show Lw _ _ _ _ _ _ _ _ _
    rw [← hw1]
    exact ⟨h.new _, OBox_new w o, Ap.new w _ ao, fun e => by have := h.lt _ e; omega⟩
  have c0 := HP1.out.x.c0
  have HW := hide (word_any o.kind w1)
  have HO := hide ho
  have hsk := ho.sk
  have Hn := hide h.len
  clear h ho
  obtain ⟨wl, hwl⟩ : ∃ wl, wrdL o.kind = wl := ⟨_, rfl⟩
  have hws : (bs wl).size ≤ 8 := by rw [← hwl, bs_size]; exact (fds_small (kdN o.kind) (kdN_lt o.kind)).2
  have Hwn := hide (bs_size wl)
  have Hwl := hide hwl
  rw [hwl] at HW
  clear hwl
  go_enter Tryd.func26, Tryd.ntmps26
  go_wp2_with (go_at_call 41; refine HW.out.mono ?_; rintro e w2 ⟨rfl, b2⟩; have HP2 := hide (HP1.out.on b2); clear HP1 HW c0)
  go_loopw [0, 6] (fun t v wr => ∃ (k m cc : Nat) (bo : Option Addr), k ≤ (bs wl).size ∧ v = .int .i64 (k : Int) ∧ t = .slice bo m cc ∧ m = n + k ∧ Hid (Lw w wr w.heap.size o ao bo m cc (Z ++ nI (wl.take k)))) (fun _ v _ => (bs wl).size - (intOf v).toNat)
  case atStart => exact ⟨0, n, c, ao, by omega, rfl, rfl, rfl, by simpa [nI] using HP2⟩
  case round =>
    clear HP2
    obtain ⟨k, m, cc, bo, hk, rfl, rfl, hm, HP⟩ := hrel
    subst hm
    by_cases hlt2 : k < (bs wl).size
    · obtain ⟨f, hf⟩ : ∃ f, (bs wl)[k] = f := ⟨_, rfl⟩
      have HE : Hid (wl.take (k + 1) = wl.take k ++ [f]) := by
        have e := take_snocB (bs wl) k hlt2
        rw [bs_list, hf] at e
        exact e
      go_wp2_with (at_builtin; refine HP.out.r.app1 (f.toNat : Int) (by omega) rfl (.tmp 18) (.tmp 22) rfl rfl rfl ?_; intro b3 q3 w3 R3 A3; have HP3 := hide (HP.out.app R3 A3); clear R3 A3)
      go_roundw
      case rel => exact ⟨k + 1, n + k + 1, q3, b3, by omega, by go_num, rfl, by omega, by have e := HP3.out; rw [List.append_assoc] at e; rw [HE.out, nI_app]; exact e⟩
      case measure => simp [intOf]; omega
    · have HF : Hid (wl.take k = wl) := List.take_of_length_le (by have := Hwn.out; omega)
      rw [HF.out] at HP
      have c0 := HP.out.x.c0
      have HW := hide (rshape_any o.kind wr)
      obtain ⟨fl, hfl⟩ : ∃ fl, fdsL o.kind = fl := ⟨_, rfl⟩
      have hfs : (bs (capL fl)).size ≤ 4 := by rw [← hfl, bs_size]; unfold capL; rw [List.length_map]; exact (fds_small (kdN o.kind) (kdN_lt o.kind)).1
      have Hfn : Hid ((bs (capL fl)).size = fl.length) := by show _ = _; rw [bs_size]; unfold capL; rw [List.length_map]
      have Hpa := hide HO.out.part
      rw [hfl] at HW Hpa
      have Hle : Hid (∀ f ∈ fl, f = 107 ∨ f = 114 ∨ f = 99 ∨ f = 116 ∨ f = 115 ∨ f = 113 ∨ f = 110) := by show ∀ f ∈ fl, _; rw [← hfl]; exact letters _ (kdN_lt o.kind)
      have Hop : Hid (opT o = wl ++ fdsT o fl) := by show _ = _; unfold opT; rw [Hwl.out, hfl]
      clear hfl
      obtain ⟨cl, hcl⟩ : ∃ cl, capL fl = cl := ⟨_, rfl⟩
      have Hcl := hide hcl
      rw [hcl] at HW hfs Hfn
      clear hcl
      go_wp2_with (go_at_call 23; refine HW.out.mono ?_; rintro e w2 ⟨rfl, b2⟩; have HP2 := hide (HP.out.on b2); clear HP HW c0)
      go_loopw [0, 8] (fun t v wr => ∃ (k m cc : Nat) (bo : Option Addr), k ≤ (bs cl).size ∧ v = .int .i64 (k : Int) ∧ t = .slice bo m cc ∧ Hid (Lw w wr w.heap.size o ao bo m cc (Z ++ nI (wl ++ fdsT o (fl.take k))))) (fun _ v _ => (bs cl).size - (intOf v).toNat)
      case atStart => exact ⟨0, _, cc, bo, by omega, rfl, rfl, by simpa [nI, fdsT] using HP2⟩
      case round =>
        clear HP2
        obtain ⟨k, m, cc, bo, hk, rfl, rfl, HP⟩ := hrel
        have hm : m ≤ n + 8 + 16 * o.sku.size + 124 := by
          have h1 := HP.out.r.len
          have h2 := Hpa.out k
          have h3 := Hwn.out
          have h4 := Hn.out
          rw [List.length_append, nI_len, List.length_append] at h1
          omega
        by_cases hlt2 : k < (bs cl).size
        · obtain ⟨f, hf⟩ : ∃ f, fl[k]? = some f := ⟨fl[k]'(by have := Hfn.out; omega), List.getElem?_eq_getElem _⟩
          have hx : (bs cl)[k] = f - 32 := by
            have e : (bs cl)[k] = cl[k]'(by rw [bs_size] at hlt2; exact hlt2) := rfl
            rw [e]
            simp only [← Hcl.out, capL, List.getElem_map]
            rw [(List.getElem?_eq_some_iff.1 hf).2]
          have HE : Hid (fdsT o (fl.take (k + 1)) = fdsT o (fl.take k) ++ ([32] ++ fdT o f)) := by
            show _ = _
            rw [List.take_add_one, hf, Option.toList_some, fdsT_snoc]
          obtain ⟨hq, hno, hye⟩ := cap_get o f (Hle.out f (List.mem_of_getElem? hf))
          obtain ⟨x, hx1⟩ : ∃ x, f - 32 = x := ⟨_, rfl⟩
          rw [hx1] at hq hno hx
          have HN := hide hno
          have HY := hide hye
          clear hno hye hf
          by_cases hs : f = 115
          · have HT := hide (HY.out hs)
            rw [decide_eq_true hs] at hq
            clear hs HN HY
            go_wp2_with (first | (go_at_call 42; have hB := HP3; refine (rsku_any _ _ _ _ o.sku hsk _ HP3.out.r (by omega)).mono ?_; rintro e w4 ⟨b4, m4, q4, rfl, R4, A4⟩; have HP4 := hide (HP3.out.app R4 A4); clear R4 A4) | (at_builtin; refine HP.out.r.app1 32 (by omega) rfl (.tmp 33) (.tmp 34) rfl rfl rfl ?_; intro b3 q3 w3 R3 A3; have HP3 := hide (HP.out.app R3 A3); have c4 := HP3.out.x.c4; clear R3 A3))
            go_roundw
            case rel => exact ⟨k + 1, m4, q4, b4, by omega, by go_num, rfl, by have e := HP4.out; show Lw _ _ _ _ _ _ _ _ _; rw [← HT.out] at e; rw [HE.out]; simpa [nI_app, nI] using e⟩
            case measure => simp [intOf]; omega
          · have HT := hide (HN.out hs)
            rw [decide_eq_false hs] at hq
            clear hs HN HY
            go_wp2_with (at_builtin; refine HP.out.r.app1 32 (by omega) rfl (.tmp 33) (.tmp 34) rfl rfl rfl ?_; intro b3 q3 w3 R3 A3; have HP3 := hide (HP.out.app R3 A3); clear R3 A3)
            refine wp_region_held_drew (S := fun v => OBox v w.heap.size o) (by kernel_rfl) (HP3.out.x.below (below_drew1 _)) (fun hHeld => ?_)
            refine wpAnyH_take (i := 0) (oi := { dst := some 44, op := Op.move (Operand.tmp 0), type := 56, pos := "ref.go:144", after := #[], guard := none }) (v := ?_) rfl (by kernel_rfl) (by kernel_rfl) (by kernel_rfl) (fun _ _ _ h => h) (Or.inl ⟨by rfl, ?_⟩) (by assumption) ?_
            rotate_left
            · (intro w hSw; (try dsimp only at hSw); go_simp); first | done | with_reducible rfl
            simp only [Act.put, List.setIfInBounds_toArray, List.set_cons_zero, List.set_cons_succ]
            refine wpAnyH_take (i := 1) (oi := { dst := some 45, op := Op.load 23 (Operand.tmp 3), type := 23, pos := "ref.go:144", after := #[], guard := none }) (v := ?_) rfl (by kernel_rfl) (by kernel_rfl) (by kernel_rfl) (fun _ _ _ h => h) (Or.inl ⟨by rfl, ?_⟩) (by assumption) ?_
            rotate_left
            · (intro w hSw; (try dsimp only at hSw); have hl := run_ldO hSw; go_simp); first | done | with_reducible rfl
            simp only [Act.put, List.setIfInBounds_toArray, List.set_cons_zero, List.set_cons_succ]
            refine wpAnyH_take (i := 2) (oi := { dst := some 46, op := Op.move (Operand.tmp 7), type := 9, pos := "ref.go:144", after := #[], guard := none }) (v := ?_) rfl (by kernel_rfl) (by kernel_rfl) (by kernel_rfl) (fun _ _ _ h => h) (Or.inl ⟨by rfl, ?_⟩) (by assumption) ?_
            rotate_left
            · (intro w hSw; (try dsimp only at hSw); go_simp); first | done | with_reducible rfl
            simp only [Act.put, List.setIfInBounds_toArray, List.set_cons_zero, List.set_cons_succ]
            refine wpAnyH_take (i := 3) (oi := { dst := some 47, op := Op.move (Operand.tmp 8), type := 3, pos := "ref.go:144", after := #[], guard := none }) (v := ?_) rfl (by kernel_rfl) (by kernel_rfl) (by kernel_rfl) (fun _ _ _ h => h) (Or.inl ⟨by rfl, ?_⟩) (by assumption) ?_
            rotate_left
            · (intro w hSw; (try dsimp only at hSw); go_simp); first | done | with_reducible rfl
            simp only [Act.put, List.setIfInBounds_toArray, List.set_cons_zero, List.set_cons_succ]
            refine wpAnyH_take (i := 4) (oi := { dst := some 48, op := Op.index 9 (Operand.tmp 46) (Operand.tmp 47), type := 5, pos := "ref.go:144", after := #[{ on := 2, ground := Ground.data }, { on := 3, ground := Ground.data }], guard := none }) (v := ?_) rfl (by kernel_rfl) (by kernel_rfl) (by kernel_rfl) (fun _ _ _ h => h) (Or.inl ⟨by rfl, ?_⟩) (by assumption) ?_
            rotate_left
            · (intro w hSw; (try dsimp only at hSw); go_simp; (try simp only [hx]); go_simp); first | done | with_reducible rfl
            simp only [Act.put, List.setIfInBounds_toArray, List.set_cons_zero, List.set_cons_succ]
            refine wpAnyH_ready (rs := [5]) (by kernel_rfl) (by simp) ?_
            refine AllReadyH.cons rfl (fun K hK => ?_) ?_
            rotate_left
            · exact AllReadyH.nil
            go_simp
            go_wp2_with fail
            refine (get_any o x w3.drew).mono ?_
            rintro e w5 ⟨rfl, b5⟩
            have HP5 := hide ((HP3.out.on (below_drew1 w3)).on b5)
            refine hK.out _ _ HP5.out.x (fun hHeld => ?_)
            clear hK K
            refine wpAnyH_ready (rs := [6]) (by kernel_rfl) (by simp) ?_
            refine AllReadyH.cons rfl (fun K hK => ?_) ?_
            rotate_left
            · exact AllReadyH.nil
            go_simp
            go_wp2_with fail
            rw [HT.out.1]
            refine (number_any b3 (m + 1) q3 _ (fdN o f) (HO.out.lo f) (HO.out.hi f) w5 HP5.out.r (by omega)).mono ?_
            rintro e w6 ⟨b6, m6, q6, rfl, R6, A6⟩
            have HP6 := hide (HP5.out.app R6 A6)
            clear R6 A6
            refine hK.out _ _ HP6.out.x (fun hHeld => ?_)
            clear hK K
            refine wpAnyH_take (i := 7) (oi := { dst := some 0, op := Op.assign (Operand.tmp 50), type := 56, pos := "ref.go:144", after := #[{ on := 6, ground := Ground.data }, { on := 6, ground := Ground.chain }, { on := 0, ground := Ground.phase }, { on := 1, ground := Ground.phase }, { on := 2, ground := Ground.phase }, { on := 3, ground := Ground.phase }, { on := 4, ground := Ground.phase }, { on := 5, ground := Ground.phase }, { on := 6, ground := Ground.phase }], guard := none }) (v := ?_) rfl (by kernel_rfl) (by kernel_rfl) (by kernel_rfl) (fun _ _ _ h => h) (Or.inl ⟨by rfl, ?_⟩) (by assumption) ?_
            rotate_left
            · (intro w hSw; (try dsimp only at hSw); go_simp); first | done | with_reducible rfl
            simp only [Act.put, List.setIfInBounds_toArray, List.set_cons_zero]
            refine wpAnyH_done (by kernel_rfl) ?_ _
            clear hHeld
            go_wp2_with fail
            go_roundw
            case rel => exact ⟨k + 1, m6, q6, b6, by omega, by go_num, rfl, by have e := HP6.out; show Lw _ _ _ _ _ _ _ _ _; rw [← HT.out.2] at e; rw [HE.out]; simpa [nI_app, nI] using e⟩
            case measure => simp [intOf]; omega
        · have HF : Hid (fl.take k = fl) := List.take_of_length_le (by have := Hfn.out; omega)
          rw [HF.out, ← Hop.out] at HP
          go_wp2_with fail
          go_ret
          exact ⟨_, _, _, rfl, HP.out.r, HP.out.a⟩
end Go.Proofs.YtmemcnjabnpdmaaDoor
