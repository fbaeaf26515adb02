/- OPk Shs PHa LPick LOf -/
import Derived.Test.YtaphmhbmhcahaaaGreatSe20
import Derived.Shelf.SlicesQ.IndexFunc
import Derived.Test.YtaphmhbmhcahaaaGreatProg
import Derived.Test.YtaphmhbmhcahaaaGreatSe04
import Derived.Test.YtaphmhbmhcahaaaGreatSe18
import Derived.Test.YtaphmhbmhcahaaaGreatSe09
namespace Go.Proofs.YtaphmhbmhcahaaaGreat.K
open Go.RowKit
attribute [local go_sem ↓] ld28_eq st28_eq
attribute [local go_sem] zero_EC cells_EV EC_size
attribute [local go_sem] fold_EC
end Go.Proofs.YtaphmhbmhcahaaaGreat.K
namespace Go.Proofs
open Go.Shelf
def Tryz.conS_ren : Go.Shelf.Ren := ⟨fun | 8 => 88 | 6 => 136 | n => n, fun | 22 => 24 | 23 => 122 | 25 => 129 | 4 => 4 | 3 => 3 | 0 => 0 | n => n, fun | n => n⟩
theorem Tryz.conS : Go.Proofs.SlLaysH0.n8 Tryz.prog Tryz.conS_ren := {
 mixed := by kernel_rfl
 f6 := ⟨Tryz.f136.name, by decide, Tryz.func136.trans (congrArg some (by kernel_rfl))⟩
 f8 := ⟨Tryz.f88.name, by decide, Tryz.func88.trans (congrArg some (by kernel_rfl))⟩
 t0 := Tryz.underlying0
 a0 := Tryz.isAgg0
 z0 := Tryz.sizeOf0
 v0 := Tryz.zeroValue0
 t3 := Tryz.underlying3
 a3 := Tryz.isAgg3
 z3 := Tryz.sizeOf3
 v3 := Tryz.zeroValue3
 t4 := Tryz.underlying4
 a4 := Tryz.isAgg4
 z4 := Tryz.sizeOf4
 v4 := Tryz.zeroValue4
 t22 := Tryz.underlying24
 a22 := Tryz.isAgg24
 z22 := Tryz.sizeOf24
 v22 := Tryz.zeroValue24
 t25 := Tryz.underlying129
 a25 := Tryz.isAgg129
 z25 := Tryz.sizeOf129
 v25 := Tryz.zeroValue129 }
end Go.Proofs
namespace Go.Proofs.YtaphmhbmhcahaaaGreat
open Go.RowKit
attribute [local go_sem ↓] ldP_eq stP_eq ldD_eq stD_eq ldS_eq stS_eq
attribute [local go_sem] zero_PC cells_PV fold_PC PC_size cells_RV RC_size cells_SV SC_size
theorem isDotP_any (d : Rn) (w : World) : Calls Tryz.prog 86 #[RV d] w fun e w' => e = .returned (.bool (V.isR d.lo && (decide (1 <= d.hi) && decide (d.hi <= 1000000000)))) /\ Below w.heap.size w w' := by
 have HB := hide (below_new w (.cells (RC d) 43))
 have X1 := box_new w 43 d
 have c0 := X1.at.c0
 have c1 : (w.alloc (.cells (RC d) 43)).cell? ⟨w.heap.size, 1, none⟩ = some (.int .i64 d.hi) := X1.at.c1
 clear X1
 obtain ⟨r, n⟩ := d
 dsimp only at c0 c1 ⊢
 obtain ⟨x, Hx⟩ : ∃ x, Hid (V.isR r = x) := ⟨_, rfl⟩
 rw [Hx.out]
 cases x with
 | false =>
  have HF : Hid ((false && (decide (1 <= n) && decide (n <= 1000000000))) = false) := rfl
  go_enter Tryz.func86, Tryz.ntmps86
  go_wp2_with (go_at_call 111; refine (isRepP_any r _).mono ?_; rintro e w' ⟨rfl, rfl⟩; rw [Hx.out])
  go_ret
  exact ⟨ret_bool HF.out.symm, HB.out⟩
 | true =>
  by_cases h1 : 1 <= n
  ·have HF : Hid ((true && (decide (1 <= n) && decide (n <= 1000000000))) = decide (n <= 1000000000)) := by show _ = _; simp [h1]
   rw [HF.out]
   go_enter Tryz.func86, Tryz.ntmps86
   go_wp2_with (go_at_call 111; refine (isRepP_any r _).mono ?_; rintro e w' ⟨rfl, rfl⟩; rw [Hx.out])
   go_ret
   exact ⟨rfl, HB.out⟩
  ·have HF : Hid ((true && (decide (1 <= n) && decide (n <= 1000000000))) = false) := by show _ = _; simp [h1]
   rw [HF.out]
   go_enter Tryz.func86, Tryz.ntmps86
   go_wp2_with (go_at_call 111; refine (isRepP_any r _).mono ?_; rintro e w' ⟨rfl, rfl⟩; rw [Hx.out])
   go_ret
   exact ⟨rfl, HB.out⟩
theorem idxS_nil (ao : Option Addr) (c : Nat) (v : Value) (w : World) : Calls Tryz.prog 136 #[.slice ao 0 c, v] w fun e w' => e = .returned (.int .i64 (-1)) /\ w' = w := by
 go_enter Tryz.func136, Tryz.ntmps136
 go_wp2_with fail
 go_loopw [5, 8] (fun _ i wr => i = .int .i64 0 /\ wr = w) (fun _ _ _ => 0)
 case atStart => exact ⟨rfl, rfl⟩
 case round =>
  obtain ⟨rfl, rfl⟩ := hrel
  go_wp2_with fail
  go_ret
  exact ⟨rfl, rfl⟩
theorem conS_nil (ao : Option Addr) (c : Nat) (v : Value) (w : World) : Calls Tryz.prog 88 #[.slice ao 0 c, v] w fun e w' => e = .returned (.bool false) /\ w' = w := by
 go_enter Tryz.func88, Tryz.ntmps88
 go_wp2_with (go_at_call 136; refine (idxS_nil _ _ _ _).mono ?_; rintro e w' ⟨rfl, rfl⟩)
 go_ret
 exact ⟨rfl, rfl⟩
def inSp (d : Rn) (c : Sn) : Bool := decide (c.rep = d.lo) && (decide (c.lo <= d.hi) && decide (d.hi <= c.hi))
def encSn (s : Sn) : List Value := (SC s).toList
end Go.Proofs.YtaphmhbmhcahaaaGreat
namespace Go.Proofs.YtaphmhbmhcahaaaGreat.K
section
open Go.RowKit
attribute [local go_sem ↓] ld28_eq st28_eq
attribute [local go_sem] zero_EC cells_EV EC_size
attribute [local go_sem] fold_EC
end
section
open Go.RowKit

def eqS (a b : ByteArray) : Bool := a.toList == b.toList
def GivesEE (w w' : World) (x : Ending) (L : List En) (er : Int) : Prop := ∃ ao n c, x = .returned (.tuple #[.slice ao n c, .int .i64 er]) /\ ESrc w' ao n c L /\ Below w.heap.size w w' /\ ∀ ad, ao = some ad -> w.heap.size <= ad.block
theorem chk_cases (L : List En) : chk L = 0 ∨ chk L = 1 := by unfold chk; split <;> simp
def ofE (L : List En) (s : ByteArray) : Int := if chk L = 0 then (if good s.data.toList = true then 0 else 5) else 1
def ofV (L : List En) (s : ByteArray) : List En := if ofE L s = 0 then L.filter (fun e => eqS e.sku s) else []
def owE (L : List En) (r : Int) (s : ByteArray) : Int := if chk L = 0 then (if isR r = true then (if good s.data.toList = true then 0 else 5) else 3) else 1
def owV (L : List En) (r : Int) (s : ByteArray) : List En := if owE L r s = 0 then L.filter (fun e => e.rep == r && eqS e.sku s) else []

end
end Go.Proofs.YtaphmhbmhcahaaaGreat.K
