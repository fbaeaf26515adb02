/- A field's word. -/
import Derived.Test.YtpnnlfhknnnfhaaGreatDoorJWd
import Derived.Test.YtpnnlfhknnnfhaaGreatDoorJIt
namespace Go.Proofs.YtpnnlfhknnnfhaaGreatDoor
open Go.RowKit T Y
variable {w w' w2 : World} {g : Nat}
attribute [local go_sem ↓] ldO_eq stO_eq

/-- the place of a number field -/
def fi (f : UInt8) : Nat := if f.toNat = 107 then 0 else if f.toNat = 114 then 1 else if f.toNat = 99 then 2 else if f.toNat = 116 then 3 else if f.toNat = 113 then 5 else 6
theorem beqN {f : UInt8} {n : Nat} (h : ((f.toNat : Int) == (n : Int)) = true) : f.toNat = n := by
  have e : (f.toNat : Int) = (n : Int) := by simpa using h
  omega
theorem bneN {f : UInt8} {n : Nat} (h : ((f.toNat : Int) == (n : Int)) = false) : ¬ f.toNat = n := by
  have e : ¬ (f.toNat : Int) = (n : Int) := by simpa using h
  omega
theorem numberIn_any (g : Nat) (f : UInt8) (w : World) : Calls Tryz.prog 29 #[.pointer (some ⟨g, 0, none⟩), .int .u8 (f.toNat : Int)] w fun e w' => e = .returned (.pointer (some ⟨g, fi f, none⟩)) ∧ w' = w := by
  cases h0 : ((f.toNat : Int) == 107)
  rotate_left
  · have e := beqN (n := 107) h0
    have HM : Hid (fi f = 0) := by show _ = _; unfold fi; rw [if_pos e]
    clear e
    go_enter Tryz.func29, Tryz.ntmps29
    go_wp2
    go_ret
    exact ⟨by rw [HM.out]; rfl, rfl⟩
  cases h1 : ((f.toNat : Int) == 114)
  rotate_left
  · have e := beqN (n := 114) h1
    have HM : Hid (fi f = 1) := by show _ = _; unfold fi; rw [if_neg (bneN (n := 107) h0)]; rw [if_pos e]
    clear e
    go_enter Tryz.func29, Tryz.ntmps29
    go_wp2
    go_ret
    exact ⟨by rw [HM.out]; rfl, rfl⟩
  cases h2 : ((f.toNat : Int) == 99)
  rotate_left
  · have e := beqN (n := 99) h2
    have HM : Hid (fi f = 2) := by show _ = _; unfold fi; rw [if_neg (bneN (n := 107) h0)]; rw [if_neg (bneN (n := 114) h1)]; rw [if_pos e]
    clear e
    go_enter Tryz.func29, Tryz.ntmps29
    go_wp2
    go_ret
    exact ⟨by rw [HM.out]; rfl, rfl⟩
  cases h3 : ((f.toNat : Int) == 116)
  rotate_left
  · have e := beqN (n := 116) h3
    have HM : Hid (fi f = 3) := by show _ = _; unfold fi; rw [if_neg (bneN (n := 107) h0)]; rw [if_neg (bneN (n := 114) h1)]; rw [if_neg (bneN (n := 99) h2)]; rw [if_pos e]
    clear e
    go_enter Tryz.func29, Tryz.ntmps29
    go_wp2
    go_ret
    exact ⟨by rw [HM.out]; rfl, rfl⟩
  cases h4 : ((f.toNat : Int) == 113)
  rotate_left
  · have e := beqN (n := 113) h4
    have HM : Hid (fi f = 5) := by show _ = _; unfold fi; rw [if_neg (bneN (n := 107) h0)]; rw [if_neg (bneN (n := 114) h1)]; rw [if_neg (bneN (n := 99) h2)]; rw [if_neg (bneN (n := 116) h3)]; rw [if_pos e]
    clear e
    go_enter Tryz.func29, Tryz.ntmps29
    go_wp2
    go_ret
    exact ⟨by rw [HM.out]; rfl, rfl⟩
  have HM : Hid (fi f = 6) := by show _ = _; unfold fi; rw [if_neg (bneN (n := 107) h0)]; rw [if_neg (bneN (n := 114) h1)]; rw [if_neg (bneN (n := 99) h2)]; rw [if_neg (bneN (n := 116) h3)]; rw [if_neg (bneN (n := 113) h4)]
  go_enter Tryz.func29, Tryz.ntmps29
  go_wp2
  go_ret
  exact ⟨by rw [HM.out]; rfl, rfl⟩
theorem numberWord_any (n : Int) (h0 : -9223372036854775808 ≤ n) (h1 : n ≤ 9223372036854775807) (w : World) (ht : Tab w) : Calls Tryz.prog 28 #[.int .i64 n] w fun e w' => e = .returned (.string (bs (num n))) ∧ Below w.heap.size w w' := by
  have HC := hide (itoa_any n h0 h1 w ht)
  clear ht
  go_enter Tryz.func28, Tryz.ntmps28
  go_wp2_with (go_at_call 47; refine HC.out.mono ?_; rintro e w1 ⟨rfl, b1⟩)
  go_ret
  exact ⟨rfl, b1⟩
/-- numbers of 64 bits, a SKU that isn't too long -/
structure Ok (o : Sp) : Prop where
  lo : ∀ f, -9223372036854775808 ≤ fdN o f
  hi : ∀ f, fdN o f ≤ 9223372036854775807
  sk : o.sku.size ≤ 1000000000000
theorem OBox.atF {o : Sp} (h : OBox w g o) (f : UInt8) : w.cell? ⟨g, fi f, none⟩ = some (.int .i64 (fdN o f)) := by
  unfold fi fdN
  repeat' split
  · exact h.c0
  · exact h.c1
  · exact h.c2
  · exact h.c3
  · exact h.c5
  · exact h.c6
set_option maxRecDepth 100000 in
set_option maxHeartbeats 1600000 in
theorem wordIn_any (o : Sp) (f : UInt8) (w : World) (h : Ok o) (ht : Tab w) : Calls Tryz.prog 14 #[.agg (OC o), .int .u8 (f.toNat : Int)] w fun e w' => e = .returned (.string (bs (fdT o f))) ∧ Below w.heap.size w w' := by
  obtain ⟨w1, hw1⟩ : ∃ w1, w.alloc (.cells (OC o) 24) = w1 := ⟨_, rfl⟩
  have hx : OBox w1 w.heap.size o := by rw [← hw1]; exact OBox_new w o
  have HB : Hid (Below w.heap.size w w1) := by show Below _ _ _; rw [← hw1]; exact below_new _ _
  have HT := hide (ht.on HB.out)
  have c4 := hx.c4
  have cf := hx.atF f
  cases h0 : ((f.toNat : Int) == 115)
  · have HM : Hid (fdT o f = num (fdN o f)) := by show _ = _; unfold fdT; rw [if_neg (bneN (n := 115) h0)]
    have HC := hide (numberWord_any (fdN o f) (h.lo f) (h.hi f) w1 HT.out)
    clear hx ht h
    go_enter Tryz.func14, Tryz.ntmps14
    go_wp2_with (first | (go_at_call 29; refine (numberIn_any _ f _).mono ?_; rintro e w2 ⟨rfl, h2⟩; subst w2) | (go_at_call 28; refine HC.out.mono ?_; rintro e w3 ⟨rfl, b3⟩))
    go_ret
    exact ⟨ret_str (by rw [HM.out]), HB.out.trans (b3.mono HB.out.size)⟩
  · have HM : Hid (fdT o f = skT o.sku.data.toList) := by show _ = _; unfold fdT; rw [if_pos (beqN (n := 115) h0)]
    have HC := hide (skuWord_any o.sku h.sk w1)
    clear hx ht h
    go_enter Tryz.func14, Tryz.ntmps14
    go_wp2_with (go_at_call 27; refine HC.out.mono ?_; rintro e w3 ⟨rfl, b3⟩)
    go_ret
    exact ⟨ret_str (by rw [HM.out]), HB.out.trans (b3.mono HB.out.size)⟩
end Go.Proofs.YtpnnlfhknnnfhaaGreatDoor
