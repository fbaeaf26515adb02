/- The reference's get. -/
import Derived.Test.YtmemcnjabnpdmaaDoorJFd
namespace Go.Proofs.YtmemcnjabnpdmaaDoor
open Go.RowKit T Y
variable {w w' w2 : World} {g : Nat}
attribute [local go_sem ↓] ldO_eq stO_eq

/-- the reference's letters are great ones -/
def gtN (o : Sp) (f : UInt8) : Int := if f.toNat = 82 then o.rep else if f.toNat = 67 then o.cart else if f.toNat = 84 then o.dst else if f.toNat = 81 then o.qty else if f.toNat = 78 then o.nr else o.kind
set_option maxRecDepth 100000 in
set_option maxHeartbeats 1600000 in
theorem get_any (o : Sp) (f : UInt8) (w : World) : Calls Tryd.prog 25 #[.agg (OC o), .int .u8 (f.toNat : Int)] w fun e w' => e = .returned (.int .i64 (gtN o f)) ∧ Below w.heap.size w w' := by
  obtain ⟨w1, hw1⟩ : ∃ w1, w.alloc (.cells (OC o) 23) = w1 := ⟨_, rfl⟩
  have hx : OBox w1 w.heap.size o := by rw [← hw1]; exact OBox_new w o
  have HB : Hid (Below w.heap.size w w1) := by show Below _ _ _; rw [← hw1]; exact below_new _ _
  have c0 := hx.c0
  have c1 := hx.c1
  have c2 := hx.c2
  have c3 := hx.c3
  have c5 := hx.c5
  have c6 := hx.c6
  clear hx
  cases h0 : ((f.toNat : Int) == 82)
  rotate_left
  · have e := beqN (n := 82) h0
    have HM : Hid (gtN o f = o.rep) := by show _ = _; unfold gtN; rw [if_pos e]
    clear e
    go_enter Tryd.func25, Tryd.ntmps25
    go_wp2
    go_ret
    exact ⟨by rw [HM.out]; rfl, HB.out⟩
  cases h1 : ((f.toNat : Int) == 67)
  rotate_left
  · have e := beqN (n := 67) h1
    have HM : Hid (gtN o f = o.cart) := by show _ = _; unfold gtN; rw [if_neg (bneN (n := 82) h0)]; rw [if_pos e]
    clear e
    go_enter Tryd.func25, Tryd.ntmps25
    go_wp2
    go_ret
    exact ⟨by rw [HM.out]; rfl, HB.out⟩
  cases h2 : ((f.toNat : Int) == 84)
  rotate_left
  · have e := beqN (n := 84) h2
    have HM : Hid (gtN o f = o.dst) := by show _ = _; unfold gtN; rw [if_neg (bneN (n := 82) h0)]; rw [if_neg (bneN (n := 67) h1)]; rw [if_pos e]
    clear e
    go_enter Tryd.func25, Tryd.ntmps25
    go_wp2
    go_ret
    exact ⟨by rw [HM.out]; rfl, HB.out⟩
  cases h3 : ((f.toNat : Int) == 81)
  rotate_left
  · have e := beqN (n := 81) h3
    have HM : Hid (gtN o f = o.qty) := by show _ = _; unfold gtN; rw [if_neg (bneN (n := 82) h0)]; rw [if_neg (bneN (n := 67) h1)]; rw [if_neg (bneN (n := 84) h2)]; rw [if_pos e]
    clear e
    go_enter Tryd.func25, Tryd.ntmps25
    go_wp2
    go_ret
    exact ⟨by rw [HM.out]; rfl, HB.out⟩
  cases h4 : ((f.toNat : Int) == 78)
  rotate_left
  · have e := beqN (n := 78) h4
    have HM : Hid (gtN o f = o.nr) := by show _ = _; unfold gtN; rw [if_neg (bneN (n := 82) h0)]; rw [if_neg (bneN (n := 67) h1)]; rw [if_neg (bneN (n := 84) h2)]; rw [if_neg (bneN (n := 81) h3)]; rw [if_pos e]
    clear e
    go_enter Tryd.func25, Tryd.ntmps25
    go_wp2
    go_ret
    exact ⟨by rw [HM.out]; rfl, HB.out⟩
  have HM : Hid (gtN o f = o.kind) := by show _ = _; unfold gtN; rw [if_neg (bneN (n := 82) h0)]; rw [if_neg (bneN (n := 67) h1)]; rw [if_neg (bneN (n := 84) h2)]; rw [if_neg (bneN (n := 81) h3)]; rw [if_neg (bneN (n := 78) h4)]
  go_enter Tryd.func25, Tryd.ntmps25
  go_wp2
  go_ret
  exact ⟨by rw [HM.out]; rfl, HB.out⟩
end Go.Proofs.YtmemcnjabnpdmaaDoor
