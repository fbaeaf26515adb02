/- The reader's end; wire.Read. -/
import Derived.Test.YtflinfmhmokfhaaURf
import Derived.Test.YtflinfmhmokfhaaURc
namespace Go.Proofs.Ytflinfmhmokfhaa
open Go.RowKit
variable {w w' w2 : World} {g : Nat} {ro so : Option Addr} {rn rc sn sc : Nat} {gave : Int} {over : Bool} {Z : List Int}

/-- behind its end -/
def Ended (w w' : World) (g : Nat) (gave : Int) : Prop := Rdr w' g none 0 0 gave true ∧ Kg w w' g
theorem ta_nil (w : World) : (Instr.typeAssert .nilIface 20 79 true).run Try.prog w = .ok (.tuple #[.agg #[.pointer none], .bool false]) w := by kernel_rfl
theorem ta_up (v : Value) (w : World) : (Instr.typeAssert (.iface 79 (.agg #[v])) 20 79 true).run Try.prog w = .ok (.tuple #[.agg #[v], .bool true]) w := by kernel_rfl
def endA (rn : Nat) : Int := if rn = 0 then 0 else 52
set_option maxRecDepth 100000 in
theorem end_calm (R : Rdr w g ro rn rc 0 false) : Calls Try.prog 24 #[ptr g, .nilIface] w fun r w' => r = .returned (.int .i64 (endA rn)) ∧ Ended w w' g 0 := by
  have z0 := R.z 0
  have x0 := R.c0
  have x1 := R.c1
  have x2 := R.c2
  have R1 := R.set0 none 0 0
  have z2 := R1.z 2
  have R2 := R1.set2 true
  have HK2 := ((Kg.refl w g).set 0 (.slice none 0 0)).set 2 (.bool true)
  obtain ⟨wa, hwa⟩ : ∃ wa, (w.setCell ⟨g, 0, none⟩ (.slice none 0 0)).setCell ⟨g, 2, none⟩ (.bool true) = wa := ⟨_, rfl⟩
  rw [hwa] at R2 HK2
  have ba := below_new wa (.cells #[.pointer none] 79)
  have R3 : Rdr (wa.alloc (.cells #[.pointer none] 79)) g none 0 0 0 true := (ba.block g R2.lt).trans R2
  have y1 := R3.c1
  have HE : Hid (Ended w (wa.alloc (.cells #[.pointer none] 79)) g 0) := ⟨R3, HK2.trans (Kg.of_below ba)⟩
  clear R R1 R2 HK2 R3 ba
  have hta := ta_nil wa
  by_cases hr : rn = 0
  · subst hr
    go_enter Try.func24, Try.ntmps24
    go_wp2_with fail
    go_ret
    exact ⟨rfl, HE.out⟩
  · have hr2 : 0 < rn := Nat.pos_of_ne_zero hr
    have HA : Hid (endA rn = 52) := if_neg hr
    clear hr
    go_enter Try.func24, Try.ntmps24
    go_wp2_with fail
    go_ret
    exact ⟨by rw [HA.out]; rfl, HE.out⟩
set_option maxRecDepth 100000 in
theorem end_up {e : Int} (R : Rdr w g none 0 0 e false) (he : e ≠ 0) : Calls Try.prog 24 #[ptr g, upV g] w fun r w' => r = .returned (.int .i64 e) ∧ Ended w w' g e := by
  have z0 := R.z 0
  have x0 := R.c0
  have x1 := R.c1
  have x2 := R.c2
  have R1 := R.set0 none 0 0
  have z2 := R1.z 2
  have R2 := R1.set2 true
  have HK2 := ((Kg.refl w g).set 0 (.slice none 0 0)).set 2 (.bool true)
  obtain ⟨wa, hwa⟩ : ∃ wa, (w.setCell ⟨g, 0, none⟩ (.slice none 0 0)).setCell ⟨g, 2, none⟩ (.bool true) = wa := ⟨_, rfl⟩
  rw [hwa] at R2 HK2
  have ba := below_new wa (.cells #[ptr g] 79)
  have R3 : Rdr (wa.alloc (.cells #[ptr g] 79)) g none 0 0 e true := (ba.block g R2.lt).trans R2
  have y1 := R3.c1
  have y2 := R3.c2
  have HE : Hid (Ended w (wa.alloc (.cells #[ptr g] 79)) g e) := ⟨R3, HK2.trans (Kg.of_below ba)⟩
  clear R R1 R2 HK2 R3 ba
  have hta := ta_up (ptr g) wa
  have he2 : (e != 0) = true := by simpa using he
  go_enter Try.func24, Try.ntmps24
  go_wp2_with fail
  go_ret
  exact ⟨rfl, HE.out⟩
end Go.Proofs.Ytflinfmhmokfhaa
