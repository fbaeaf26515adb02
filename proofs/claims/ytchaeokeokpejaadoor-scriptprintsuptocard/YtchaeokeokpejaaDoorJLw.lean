/- ScriptPrints: the law. -/
import Derived.Test.YtchaeokeokpejaaDoorJRp
import Derived.OrdersHeld
namespace Go.Proofs.YtchaeokeokpejaaDoor
open Go.RowKit T Y
variable {w w' : World} {g : Nat}
attribute [local go_sem ↓] ldO_eq stO_eq ldS_eq stS_eq
def litO : Sp := ⟨15, 1, 0, 0, ⟨#[]⟩, 0, 0⟩
theorem num_nat' (u : Nat) : num (u : Int) = Lib.decDigits u := by unfold num Lib.itoa; rw [if_neg (by omega)]; simp
theorem num_dig (u : Nat) (h : u < 10) : num (u : Int) = [UInt8.ofNat (48 + u)] := by
  rw [num_nat', Lib.decDigits, dif_pos h]
theorem lit_print : printT [2, 0, 0, 0, 0, 0] [litO] = [115, 116, 111, 114, 101, 32, 50, 32, 48, 32, 48, 32, 48, 32, 48, 32, 48, 10, 114, 101, 115, 116, 97, 114, 116, 32, 49, 10] := by
  have e0 : num 0 = [48] := num_dig 0 (by decide)
  have e1 : num 1 = [49] := num_dig 1 (by decide)
  have e2 : num 2 = [50] := num_dig 2 (by decide)
  have e3 : opT litO = [114, 101, 115, 116, 97, 114, 116] ++ ([32] ++ num 1) := by
    have h1 : wrdL litO.kind = [114, 101, 115, 116, 97, 114, 116] := by decide
    have h2 : fdsL litO.kind = [114] := by decide
    unfold opT
    rw [h1, h2]
    simp [fdsT, fdT, fdN, litO]
  have e4 : opsT [litO] = opT litO ++ [10] := by simp [opsT]
  unfold printT
  rw [e4, e3]
  simp [numsT, e0, e1, e2, storeL]
theorem lit_ok : Ok litO := by
  have h : ∀ f, fdN litO f = 15 ∨ fdN litO f = 1 ∨ fdN litO f = 0 := by
    intro f
    unfold fdN
    simp only [litO]
    repeat' split
    all_goals simp
  exact ⟨fun f => by have := h f; omega, fun f => by have := h f; omega, by decide⟩
theorem lit_src (w : World) : OSrc (w.alloc (.cells (OC litO) 29)) (some ⟨w.heap.size, 0, none⟩) 1 1 [litO] := by
  refine ⟨rfl, (fun h => (by cases h)), fun ad ha t ht => ?_⟩
  obtain rfl : t = 0 := by omega
  obtain rfl := Option.some.inj ha
  have hb := OBox_new w litO
  have e0 : (({ block := w.heap.size, off := 0 } : Addr).add (0 * 7)) = ⟨w.heap.size, 0, none⟩ := by simp [Addr.add]
  have ea : ∀ k, (({ block := w.heap.size, off := 0 } : Addr).add (0 * 7)).add k = ⟨w.heap.size, k, none⟩ := fun k => by rw [e0, Addr.add_lit, Nat.zero_add]
  exact ⟨by rw [e0]; exact hb.c0, by rw [ea]; exact hb.c1, by rw [ea]; exact hb.c2, by rw [ea]; exact hb.c3, by rw [ea]; exact hb.c4, by rw [ea]; exact hb.c5, by rw [ea]; exact hb.c6⟩
set_option maxRecDepth 100000 in
set_option maxHeartbeats 1600000 in
theorem prints_any (a b c d e f : Int) (so : Option Addr) (n sc : Nat) (L : List Sp) (w : World) (h : ∀ n, n ∈ [a, b, c, d, e, f] → R64 n) (hS : OSrc w so n sc L) (hL : ∀ o, o ∈ L → Ok o) (hw : wtO L ≤ 40000000000000) (ht : Tab w) (hs : Sht w) :
    Calls Tryd.prog 3 #[.agg #[.int .i64 a, .int .i64 b, .int .i64 c, .int .i64 d, .int .i64 e, .int .i64 f, .slice so n sc]] w fun r w' => r = .returned (.bool true) ∧ Below w.heap.size w w' := by
  obtain ⟨w1, hw1⟩ : ∃ w1, w.alloc (.cells #[.int .i64 a, .int .i64 b, .int .i64 c, .int .i64 d, .int .i64 e, .int .i64 f, .slice so n sc] 26) = w1 := ⟨_, rfl⟩
  have hx : SBox w1 w.heap.size ⟨a, b, c, d, e, f, so, n, sc⟩ := by rw [← hw1]; exact SBox_new w ⟨a, b, c, d, e, f, so, n, sc⟩
  have hb1 : Below w.heap.size w w1 := by rw [← hw1]; exact below_new _ _
  obtain ⟨w2, hw2⟩ : ∃ w2, w1.alloc (.cells #[.int .i64 15, .int .i64 1, .int .i64 0, .int .i64 0, .string ⟨#[]⟩, .int .i64 0, .int .i64 0] 29) = w2 := ⟨_, rfl⟩
  have hb2 : Below w1.heap.size w1 w2 := by rw [← hw2]; exact below_new _ _
  have hl2 : OSrc w2 (some ⟨w1.heap.size, 0, none⟩) 1 1 [litO] := by rw [← hw2]; exact lit_src w1
  have b12 := hb1.trans (hb2.mono hb1.size)
  obtain ⟨y, hy⟩ : ∃ y, y = bs [115, 116, 111, 114, 101, 32, 50, 32, 48, 32, 48, 32, 48, 32, 48, 32, 48, 10, 114, 101, 115, 116, 97, 114, 116, 32, 49, 10] := ⟨_, rfl⟩
  have hyq : (y.toList == [115, 116, 111, 114, 101, 32, 50, 32, 48, 32, 48, 32, 48, 32, 48, 32, 48, 10, 114, 101, 115, 116, 97, 114, 116, 32, 49, 10]) = true := by rw [hy, ByteArray.toList_eq, bs_list]; rfl
  have HC1 : Hid (Calls Tryd.prog 4 #[.agg #[.int .i64 2, .int .i64 0, .int .i64 0, .int .i64 0, .int .i64 0, .int .i64 0, .slice (some ⟨w1.heap.size, 0, none⟩) 1 1]] w2 fun r w' => r = .returned (.string y) ∧ Below w2.heap.size w2 w') := by
    have := print_any 2 0 0 0 0 0 (some ⟨w1.heap.size, 0, none⟩) 1 1 [litO] w2 (fun n hn => by simp at hn; rcases hn with rfl | rfl <;> exact ⟨by omega, by omega⟩) hl2 (fun o ho => by simp at ho; subst ho; exact lit_ok) (by decide) (ht.on b12) (hs.on b12)
    rw [lit_print, ← hy] at this
    exact this
  have HC2 := hide (fun v (s : OSrc v so n sc L) (t : Tab v) (u : Sht v) => print_any a b c d e f so n sc L v h s hL (by omega) t u)
  have HC3 := hide (fun v (s : OSrc v so n sc L) => rprint_any a b c d e f so n sc L v h s hL hw)
  have HS := hide hS
  have HT := hide ht
  have HU := hide hs
  have HX := hide (hx.below hb2)
  have HB := hide b12
  clear hx hb1 hb2 hl2 b12 hy h hS hL ht hs
  go_enter Tryd.func3, Tryd.ntmps3
  go_wp2_with (go_at_call 4; refine HC1.out.mono ?_; rintro r w3 ⟨rfl, b3⟩; have HX3 := hide (HX.out.below b3); have HB3 := hide (HB.out.trans (b3.mono HB.out.size)); clear HC1 HX HB)
  refine wp_region_held_drew (S := fun v => SBox v w.heap.size ⟨a, b, c, d, e, f, so, n, sc⟩) (by kernel_rfl) (HX3.out.below (below_drew1 _)) (fun hHeld => ?_)
  refine wpAnyH_take (i := 0) (oi := { dst := some 9, op := Op.load 26 (Operand.tmp 1), type := 26, pos := "law.go:39", after := #[], guard := none }) (v := ?_) rfl (by kernel_rfl) (by kernel_rfl) (by kernel_rfl) (fun _ _ _ h => h) (Or.inl ⟨by rfl, ?_⟩) (by assumption) ?_
  rotate_left
  · (intro w hSw; (try dsimp only at hSw); have hl := run_ldS hSw; go_simp); first | done | with_reducible rfl
  simp only [Act.put, List.setIfInBounds_toArray, List.set_cons_zero, List.set_cons_succ]
  refine wpAnyH_take (i := 2) (oi := { dst := some 11, op := Op.load 26 (Operand.tmp 1), type := 26, pos := "law.go:39", after := #[], guard := none }) (v := ?_) rfl (by kernel_rfl) (by kernel_rfl) (by kernel_rfl) (fun _ _ _ h => h) (Or.inl ⟨by rfl, ?_⟩) (by assumption) ?_
  rotate_left
  · (intro w hSw; (try dsimp only at hSw); have hl := run_ldS hSw; go_simp); first | done | with_reducible rfl
  simp only [Act.put, List.setIfInBounds_toArray, List.set_cons_zero, List.set_cons_succ]
  have HB3d := hide (HB3.out.trans ((below_drew1 w3).mono HB3.out.size))
  have HX3d := hide (HX3.out.below (below_drew1 w3))
  refine wpAnyH_ready (rs := [1]) (by kernel_rfl) (by simp) ?_
  refine AllReadyH.cons rfl (fun K hK => ?_) ?_
  rotate_left
  · exact AllReadyH.nil
  go_simp
  go_wp2_with fail
  refine (HC2.out w3.drew (HS.out.below HB3d.out) (HT.out.on HB3d.out) (HU.out.on HB3d.out)).mono ?_
  rintro r w4 ⟨rfl, b4⟩
  have HX4 := hide (HX3d.out.below b4)
  have HB4 := hide (HB3d.out.trans (b4.mono HB3d.out.size))
  refine hK.out _ _ HX4.out (fun hHeld => ?_)
  clear hK K
  refine wpAnyH_ready (rs := [3]) (by kernel_rfl) (by simp) ?_
  refine AllReadyH.cons rfl (fun K hK => ?_) ?_
  rotate_left
  · exact AllReadyH.nil
  go_simp
  go_wp2_with fail
  refine (HC3.out w4 (HS.out.below HB4.out)).mono ?_
  rintro r w5 ⟨rfl, b5⟩
  have HX5 := hide (HX4.out.below b5)
  have HB5 := hide (HB4.out.trans (b5.mono HB4.out.size))
  refine hK.out _ _ HX5.out (fun hHeld => ?_)
  clear hK K
  refine wpAnyH_take (i := 4) (oi := { dst := some 13, op := Op.binOp BinOp.eql 9 (Operand.tmp 10) (Operand.tmp 12) 9, type := 4, pos := "law.go:39", after := #[{ on := 1, ground := Ground.data }, { on := 3, ground := Ground.data }], guard := none }) (v := ?_) rfl (by kernel_rfl) (by kernel_rfl) (by kernel_rfl) (fun _ _ _ h => h) (Or.inl ⟨by rfl, ?_⟩) (by assumption) ?_
  rotate_left
  · (intro w hSw; (try dsimp only at hSw); go_simp); first | done | with_reducible rfl
  simp only [Act.put, List.setIfInBounds_toArray, List.set_cons_zero, List.set_cons_succ]
  refine wpAnyH_take (i := 5) (oi := { dst := some 2, op := Op.assign (Operand.tmp 13), type := 4, pos := "law.go:39", after := #[{ on := 4, ground := Ground.data }, { on := 3, ground := Ground.chain }, { on := 0, ground := Ground.phase }, { on := 1, ground := Ground.phase }, { on := 2, ground := Ground.phase }, { on := 3, ground := Ground.phase }, { on := 4, ground := Ground.phase }], guard := none }) (v := ?_) rfl (by kernel_rfl) (by kernel_rfl) (by kernel_rfl) (fun _ _ _ h => h) (Or.inl ⟨by rfl, ?_⟩) (by assumption) ?_
  rotate_left
  · (intro w hSw; (try dsimp only at hSw); go_simp); first | done | with_reducible rfl
  simp only [Act.put, List.setIfInBounds_toArray, List.set_cons_zero, List.set_cons_succ]
  refine wpAnyH_done (by kernel_rfl) ?_ _
  clear hHeld
  go_wp2_with fail
  go_ret
  exact ⟨rfl, HB5.out⟩
end Go.Proofs.YtchaeokeokpejaaDoor
