/- RMt -/
import Derived.Test.YtehcehhfdhiomaaGreatTv07
namespace Go.Proofs.YtehcehhfdhiomaaGreat
open Go.RowKit
attribute [local go_sem ↓] ldR_eq stR_eq
attribute [local go_sem] zero_RC cells_RV RC_size fold_RC
theorem build_RC (x y : Int) : ((RC rn0).setIfInBounds 0 (.int .i64 x)).setIfInBounds 1 (.int .i64 y) = RC ⟨x, y⟩ := rfl
attribute [local go_sem] build_RC
def lenOfS : Value → Nat
 | .slice _ n _ => n
 | _ => 0
set_option maxRecDepth 100000 in
set_option maxHeartbeats 8000000 in
theorem meet_new (ao bo : Option Addr) (n cap m cap' : Nat) (A B : List Rn) (w : World) (hS : RSrc w ao n cap A) (hR : RSrc w bo m cap' B) :
  Calls Tryz.prog 92 #[.slice ao n cap, .slice bo m cap'] w fun e w' => GivesRN w w' e (MeetOf A B) := by
 have HS := hide hS
 have HR := hide hR
 clear hS hR
 go_enter Tryz.func92, Tryz.ntmps92
 go_wp2_with fail
 refine (norm_any ao n cap A _ HS.out).mono ?_
 rintro e w1 ⟨a1, n1, c1, X, rfl, S1, b1, p1⟩
 have HS1 := hide S1
 have HP1 := hide p1
 have HB1 := hide b1
 clear S1 b1 p1
 go_wp2_with fail
 refine (norm_any bo m cap' B _ (HR.out.below HB1.out)).mono ?_
 rintro e w2 ⟨a2, n2, c2, Y, rfl, S2, b2, p2⟩
 have HS2 := hide S2
 have HP2 := hide p2
 have HS1' := hide (HS1.out.below b2)
 have HB2 := hide (HB1.out.trans (b2.mono HB1.out.size))
 clear S2 b2 p2 HS1 HB1
 go_wp2_with fail
 go_loopw [5, 6, 7, 8, 9] (fun u v o _ _ wr => ∃ (ax : Option Addr) (nx cx : Nat) (x' : List Rn) (ay : Option Addr) (ny cy : Nat) (y' : List Rn) (ap : Option Addr) (c : Nat) (acc : List Rn), u = .slice ax nx cx ∧ v = .slice ay ny cy ∧ o = .slice ap acc.length c ∧ RSrc w2 ax nx cx x' ∧ RSrc w2 ay ny cy y' ∧ OwnR w2.heap.size w2.heap.size w2 wr ap c acc ∧ MtInv X Y x' y' acc) (fun u v _ _ _ _ => lenOfS u + lenOfS v)
 case atStart => exact ⟨a1, n1, c1, X, a2, n2, c2, Y, none, 0, [], rfl, rfl, rfl, HS1'.out, HS2.out, OwnR.nil (Below.refl _ _) (Nat.le_refl _) (Nat.le_refl _), MtInv.start HP1.out.1 HP2.out.1⟩
 case round =>
  obtain ⟨ax, nx, cx, x', ay, ny, cy, y', ap, c, acc, rfl, rfl, rfl, SX, SY, O, I⟩ := hrel
  rename World => w4
  have H : Hid (OwnR w2.heap.size w2.heap.size w2 w4 ap c acc ∧ MtInv X Y x' y' acc) := ⟨O, I⟩
  have HSX := hide SX
  have HSY := hide SY
  have hal := form_small (Int.le_refl _) I.frm
  have hcx := SX.cap
  have hcy := SY.cap
  have hrx := SX.room
  have hry := SY.room
  unfold maxLen at hrx hry
  clear SX SY O I
  by_cases h1 : 0 < nx
  ·by_cases h2 : 0 < ny
   ·obtain ⟨adx, rfl, _⟩ := HSX.out.at 0 h1
    obtain ⟨ady, rfl, _⟩ := HSY.out.at 0 h2
    obtain ⟨bx, ox, rfl⟩ := HSX.out.spot h1
    obtain ⟨by_, oy, rfl⟩ := HSY.out.spot h2
    obtain ⟨a, xs, rfl⟩ : ∃ a xs, x' = a :: xs := by
     have := HSX.out.len
     cases x' with
     | nil => simp at this; omega
     | cons a xs => exact ⟨a, xs, rfl⟩
    obtain ⟨b, ys, rfl⟩ : ∃ b ys, y' = b :: ys := by
     have := HSY.out.len
     cases y' with
     | nil => simp at this; omega
     | cons b ys => exact ⟨b, ys, rfl⟩
    obtain ⟨q0, q1⟩ := HSX.out.nums 0 h1
    obtain ⟨q2, q3⟩ := HSY.out.nums 0 h2
    simp [List.getD] at q0 q1 q2 q3
    have HQ1 := hide q1
    have HQ3 := hide q3
    have k0 := cell_regrown ((H.out.1.below.cell (World.block_lt_of_cell? _ _ q0)).trans q0)
    have k1 := cell_regrown ((H.out.1.below.cell (World.block_lt_of_cell? _ _ q1)).trans q1)
    have k2 := cell_regrown ((H.out.1.below.cell (World.block_lt_of_cell? _ _ q2)).trans q2)
    have k3 := cell_regrown ((H.out.1.below.cell (World.block_lt_of_cell? _ _ q3)).trans q3)
    clear q0 q1 q2 q3
    by_cases hle : max a.lo b.lo ≤ min a.hi b.hi
    ·by_cases hlt : a.hi < b.hi
     ·go_wp2_with fail
      refine wp_region_quiet_below (by kernel_rfl) (by kernel_rfl) ?_
      repeat (with_reducible (refine wpQuiet_step ?_); intro K hK; go_simp; (try rw [if_neg (by unfold undef; simp)]); first | (with_reducible (refine hK _ ?_); clear hK K) | (apply Exists.intro; refine ⟨fun _ => ?_, hK _ ?_⟩; (fail); clear hK K))
      with_reducible (refine wpQuiet_nil ?_)
      intro w5 hw'
      obtain ⟨⟨dq, osq⟩, hw''⟩ := hw'
      have b5 : Below w4.heap.size w4 w5 := by rw [hw'']; exact below_regrown w4 dq osq
      clear hw'' dq osq
      have HO5 := hide (H.out.1.later b5)
      clear b5 k0 k1 k2 k3
      go_wp2_with (at_builtin; refine HO5.out.append ⟨max a.lo b.lo, min a.hi b.hi⟩ _ rfl (by omega) rfl (.tmp 43) (.tmp 47) rfl acc.length rfl rfl rfl ?_; intro g6 c6 w6 O6)
      have HO6 := hide O6
      clear O6
      have hl6 : (acc ++ [(⟨max a.lo b.lo, min a.hi b.hi⟩ : Rn)]).length = acc.length + 1 := by simp
      have k1 := cell_regrown ((HO6.out.below.cell (World.block_lt_of_cell? _ _ HQ1.out)).trans HQ1.out)
      have k3 := cell_regrown ((HO6.out.below.cell (World.block_lt_of_cell? _ _ HQ3.out)).trans HQ3.out)
      refine wp_region_quiet_below (by kernel_rfl) (by kernel_rfl) ?_
      repeat (with_reducible (refine wpQuiet_step ?_); intro K hK; go_simp; (try rw [if_neg (by unfold undef; simp)]); first | (with_reducible (refine hK _ ?_); clear hK K) | (apply Exists.intro; refine ⟨fun _ => ?_, hK _ ?_⟩; (fail); clear hK K))
      with_reducible (refine wpQuiet_nil ?_)
      intro w8 hw'
      obtain ⟨⟨dq, osq⟩, hw''⟩ := hw'
      have b8 : Below w6.heap.size w6 w8 := by rw [hw'']; exact below_regrown w6 dq osq
      clear hw'' dq osq
      have HO8 := hide (HO6.out.later b8)
      clear b8 k1 k3
      have HM : Hid (met acc a b = acc ++ [⟨max a.lo b.lo, min a.hi b.hi⟩]) := by show _ = _; unfold met; rw [if_pos (by omega)]
      have HN := hide (H.out.2.left (by omega))
      rw [HM.out] at HN
      go_wp2_with fail
      go_roundw
      case rel => exact ⟨if cx = 1 then some ⟨bx, ox, none⟩ else some ⟨bx, ox + 2, none⟩, nx - 1, cx - 1, xs, some ⟨by_, oy, none⟩, ny, cy, b :: ys, some ⟨g6, 0, none⟩, c6, acc ++ [⟨max a.lo b.lo, min a.hi b.hi⟩], rfl, rfl, by simp, HSX.out.tail', HSY.out, HO8.out, HN.out⟩
      case measure => simp [lenOfS]; omega
     ·go_wp2_with fail
      refine wp_region_quiet_below (by kernel_rfl) (by kernel_rfl) ?_
      repeat (with_reducible (refine wpQuiet_step ?_); intro K hK; go_simp; (try rw [if_neg (by unfold undef; simp)]); first | (with_reducible (refine hK _ ?_); clear hK K) | (apply Exists.intro; refine ⟨fun _ => ?_, hK _ ?_⟩; (fail); clear hK K))
      with_reducible (refine wpQuiet_nil ?_)
      intro w5 hw'
      obtain ⟨⟨dq, osq⟩, hw''⟩ := hw'
      have b5 : Below w4.heap.size w4 w5 := by rw [hw'']; exact below_regrown w4 dq osq
      clear hw'' dq osq
      have HO5 := hide (H.out.1.later b5)
      clear b5 k0 k1 k2 k3
      go_wp2_with (at_builtin; refine HO5.out.append ⟨max a.lo b.lo, min a.hi b.hi⟩ _ rfl (by omega) rfl (.tmp 43) (.tmp 47) rfl acc.length rfl rfl rfl ?_; intro g6 c6 w6 O6)
      have HO6 := hide O6
      clear O6
      have hl6 : (acc ++ [(⟨max a.lo b.lo, min a.hi b.hi⟩ : Rn)]).length = acc.length + 1 := by simp
      have k1 := cell_regrown ((HO6.out.below.cell (World.block_lt_of_cell? _ _ HQ1.out)).trans HQ1.out)
      have k3 := cell_regrown ((HO6.out.below.cell (World.block_lt_of_cell? _ _ HQ3.out)).trans HQ3.out)
      refine wp_region_quiet_below (by kernel_rfl) (by kernel_rfl) ?_
      repeat (with_reducible (refine wpQuiet_step ?_); intro K hK; go_simp; (try rw [if_neg (by unfold undef; simp)]); first | (with_reducible (refine hK _ ?_); clear hK K) | (apply Exists.intro; refine ⟨fun _ => ?_, hK _ ?_⟩; (fail); clear hK K))
      with_reducible (refine wpQuiet_nil ?_)
      intro w8 hw'
      obtain ⟨⟨dq, osq⟩, hw''⟩ := hw'
      have b8 : Below w6.heap.size w6 w8 := by rw [hw'']; exact below_regrown w6 dq osq
      clear hw'' dq osq
      have HO8 := hide (HO6.out.later b8)
      clear b8 k1 k3
      have HM : Hid (met acc a b = acc ++ [⟨max a.lo b.lo, min a.hi b.hi⟩]) := by show _ = _; unfold met; rw [if_pos (by omega)]
      have HN := hide (H.out.2.right (by omega))
      rw [HM.out] at HN
      go_wp2_with fail
      go_roundw
      case rel => exact ⟨some ⟨bx, ox, none⟩, nx, cx, a :: xs, if cy = 1 then some ⟨by_, oy, none⟩ else some ⟨by_, oy + 2, none⟩, ny - 1, cy - 1, ys, some ⟨g6, 0, none⟩, c6, acc ++ [⟨max a.lo b.lo, min a.hi b.hi⟩], rfl, rfl, by simp, HSX.out, HSY.out.tail', HO8.out, HN.out⟩
      case measure => simp [lenOfS]; omega
    ·by_cases hlt : a.hi < b.hi
     ·go_wp2_with fail
      refine wp_region_quiet_below (by kernel_rfl) (by kernel_rfl) ?_
      repeat (with_reducible (refine wpQuiet_step ?_); intro K hK; go_simp; (try rw [if_neg (by unfold undef; simp)]); first | (with_reducible (refine hK _ ?_); clear hK K) | (apply Exists.intro; refine ⟨fun _ => ?_, hK _ ?_⟩; (fail); clear hK K))
      with_reducible (refine wpQuiet_nil ?_)
      intro w5 hw'
      obtain ⟨⟨dq, osq⟩, hw''⟩ := hw'
      have b5 : Below w4.heap.size w4 w5 := by rw [hw'']; exact below_regrown w4 dq osq
      clear hw'' dq osq
      have HO5 := hide (H.out.1.later b5)
      clear b5 k0 k1 k2 k3
      go_wp2_with fail
      have k1 := cell_regrown ((HO5.out.below.cell (World.block_lt_of_cell? _ _ HQ1.out)).trans HQ1.out)
      have k3 := cell_regrown ((HO5.out.below.cell (World.block_lt_of_cell? _ _ HQ3.out)).trans HQ3.out)
      refine wp_region_quiet_below (by kernel_rfl) (by kernel_rfl) ?_
      repeat (with_reducible (refine wpQuiet_step ?_); intro K hK; go_simp; (try rw [if_neg (by unfold undef; simp)]); first | (with_reducible (refine hK _ ?_); clear hK K) | (apply Exists.intro; refine ⟨fun _ => ?_, hK _ ?_⟩; (fail); clear hK K))
      with_reducible (refine wpQuiet_nil ?_)
      intro w8 hw'
      obtain ⟨⟨dq, osq⟩, hw''⟩ := hw'
      have b8 : Below w5.heap.size w5 w8 := by rw [hw'']; exact below_regrown w5 dq osq
      clear hw'' dq osq
      have HO8 := hide (HO5.out.later b8)
      clear b8 k1 k3
      have HM : Hid (met acc a b = acc) := by show _ = _; unfold met; rw [if_neg (by omega)]
      have HN := hide (H.out.2.left (by omega))
      rw [HM.out] at HN
      go_wp2_with fail
      go_roundw
      case rel => exact ⟨if cx = 1 then some ⟨bx, ox, none⟩ else some ⟨bx, ox + 2, none⟩, nx - 1, cx - 1, xs, some ⟨by_, oy, none⟩, ny, cy, b :: ys, ap, c, acc, rfl, rfl, rfl, HSX.out.tail', HSY.out, HO8.out, HN.out⟩
      case measure => simp [lenOfS]; omega
     ·go_wp2_with fail
      refine wp_region_quiet_below (by kernel_rfl) (by kernel_rfl) ?_
      repeat (with_reducible (refine wpQuiet_step ?_); intro K hK; go_simp; (try rw [if_neg (by unfold undef; simp)]); first | (with_reducible (refine hK _ ?_); clear hK K) | (apply Exists.intro; refine ⟨fun _ => ?_, hK _ ?_⟩; (fail); clear hK K))
      with_reducible (refine wpQuiet_nil ?_)
      intro w5 hw'
      obtain ⟨⟨dq, osq⟩, hw''⟩ := hw'
      have b5 : Below w4.heap.size w4 w5 := by rw [hw'']; exact below_regrown w4 dq osq
      clear hw'' dq osq
      have HO5 := hide (H.out.1.later b5)
      clear b5 k0 k1 k2 k3
      go_wp2_with fail
      have k1 := cell_regrown ((HO5.out.below.cell (World.block_lt_of_cell? _ _ HQ1.out)).trans HQ1.out)
      have k3 := cell_regrown ((HO5.out.below.cell (World.block_lt_of_cell? _ _ HQ3.out)).trans HQ3.out)
      refine wp_region_quiet_below (by kernel_rfl) (by kernel_rfl) ?_
      repeat (with_reducible (refine wpQuiet_step ?_); intro K hK; go_simp; (try rw [if_neg (by unfold undef; simp)]); first | (with_reducible (refine hK _ ?_); clear hK K) | (apply Exists.intro; refine ⟨fun _ => ?_, hK _ ?_⟩; (fail); clear hK K))
      with_reducible (refine wpQuiet_nil ?_)
      intro w8 hw'
      obtain ⟨⟨dq, osq⟩, hw''⟩ := hw'
      have b8 : Below w5.heap.size w5 w8 := by rw [hw'']; exact below_regrown w5 dq osq
      clear hw'' dq osq
      have HO8 := hide (HO5.out.later b8)
      clear b8 k1 k3
      have HM : Hid (met acc a b = acc) := by show _ = _; unfold met; rw [if_neg (by omega)]
      have HN := hide (H.out.2.right (by omega))
      rw [HM.out] at HN
      go_wp2_with fail
      go_roundw
      case rel => exact ⟨some ⟨bx, ox, none⟩, nx, cx, a :: xs, if cy = 1 then some ⟨by_, oy, none⟩ else some ⟨by_, oy + 2, none⟩, ny - 1, cy - 1, ys, ap, c, acc, rfl, rfl, rfl, HSX.out, HSY.out.tail', HO8.out, HN.out⟩
      case measure => simp [lenOfS]; omega
   ·obtain rfl : ny = 0 := by omega
    have hy : y' = [] := List.eq_nil_of_length_eq_zero HSY.out.len
    have HD := hide (H.out.2.done (Or.inr hy) HP1.out HP2.out)
    obtain ⟨S4, F4⟩ := H.out.1.src (by omega)
    have HN : Hid (GivesRN w w4 (.returned (.slice ap acc.length c)) (MeetOf A B)) := ⟨ap, acc.length, c, acc, rfl, S4, HB2.out.trans (H.out.1.below.mono HB2.out.size), (fun ad h => Nat.le_trans HB2.out.size (F4 ad h)), HD.out⟩
    clear S4 F4
    go_wp2_with fail
    go_ret
    exact HN.out
  ·obtain rfl : nx = 0 := by omega
   have hx : x' = [] := List.eq_nil_of_length_eq_zero HSX.out.len
   have HD := hide (H.out.2.done (Or.inl hx) HP1.out HP2.out)
   obtain ⟨S4, F4⟩ := H.out.1.src (by omega)
   have HN : Hid (GivesRN w w4 (.returned (.slice ap acc.length c)) (MeetOf A B)) := ⟨ap, acc.length, c, acc, rfl, S4, HB2.out.trans (H.out.1.below.mono HB2.out.size), (fun ad h => Nat.le_trans HB2.out.size (F4 ad h)), HD.out⟩
   clear S4 F4
   go_wp2_with fail
   go_ret
   exact HN.out
end Go.Proofs.YtehcehhfdhiomaaGreat
