/- OCm OOf ORh BCv -/
import Derived.Test.YtalpnhfoaohhhaaGreatTd17
import Derived.Laws.StructEq
import Derived.Shelf.SlicesQ.Reverse
import Derived.Lib.OwnBridge
import Derived.Deep.LoopGhost
import Derived.Lib.SlicesCompact
import Derived.Lib.QuietBelow
import Derived.Test.YtalpnhfoaohhhaaGreatTd19
import Derived.Test.YtalpnhfoaohhhaaGreatTd08
import Derived.Deep.RegionHeldLaw
import Derived.Deep.CutRange
import Derived.Test.YtalpnhfoaohhhaaGreatTd16
namespace Go.Proofs.YtalpnhfoaohhhaaGreat
section
open Go.RowKit Go.Sort Go.Lib
attribute [local go_sem ↓] ldD_eq stD_eq
structure Kd (w w' : World) (g : Nat) : Prop where
 os : w'.os = w.os
 tape : w'.tape = w.tape
 output : w'.output = w.output
 size : w.heap.size <= w'.heap.size
 block : ∀ k, k < w.heap.size -> k ≠ g -> w'.heap[k]? = w.heap[k]?
theorem Kd.refl (w : World) (g : Nat) : Kd w w g := ⟨rfl, rfl, rfl, Nat.le_refl _, fun _ _ _ => rfl⟩
theorem Kd.trans {w w' w2 : World} {g : Nat} (h : Kd w w' g) (k : Kd w' w2 g) : Kd w w2 g := ⟨k.os.trans h.os, k.tape.trans h.tape, k.output.trans h.output, Nat.le_trans h.size k.size, fun j hj hn => (k.block j (Nat.lt_of_lt_of_le hj h.size) hn).trans (h.block j hj hn)⟩
theorem Kd.below {w w' w0 : World} {g B : Nat} (b : Below B w0 w) (h : Kd w w' g) (hg : B <= g) (hB : B <= w.heap.size) : Below B w0 w' := ⟨h.os.trans b.os, h.tape.trans b.tape, h.output.trans b.output, Nat.le_trans b.size h.size, fun k hk => (h.block k (by omega) (by omega)).trans (b.block k hk)⟩
def eqD (x y : Rn) : Bool := x.lo == y.lo && x.hi == y.hi
theorem run_eqD (x y : Rn) (w : World) : (Op.equalIn 10000 32 (.agg (RC x)) (.agg (RC y))).run Tryz.prog w = .ok (eqD x y) w := by
 have u3 := Tryz.underlying3
 have a3 := Tryz.isAgg3
 have z3 := Tryz.sizeOf3
 have hS : Tryz.prog.underlying 32 = some (.struct (Tryz.prog.fieldsOf 32)) := by kernel_rfl
 have hp : Tryz.prog.stoodInHeld 32 = false := by kernel_rfl
 show (Op.equalIn 10000 32 (.agg #[.int .i64 x.lo, .int .i64 x.hi]) (.agg #[.int .i64 y.lo, .int .i64 y.hi])).run Tryz.prog w = _
 rw [show (10000 : Nat) = 9999 + 1 from rfl, run_equalIn_struct w 9999 32 _ _ hS hp]
 simp only [Program.fieldsOf, Tryz.underlying32]
 go_simp
 unfold eqD
 by_cases h1 : x.lo = y.lo <;> by_cases h2 : x.hi = y.hi <;> simp [h1, h2]
theorem MR.on {W W' : World} {ad : Addr} {d : Array Rn} (M : MR W ad d) (hb : Below W.heap.size W W') : MR W' ad d :=
 ⟨fun j hj => by rw [hb.cell (p := ⟨ad.block, 0 + j, none⟩) M.lt, hb.frozen (p := ⟨ad.block, 0 + j, none⟩) M.lt]; exact M.hk j hj, Nat.lt_of_lt_of_le M.lt hb.size, M.ha⟩
attribute [local go_sem ↓] run_eqD
attribute [local go_sem] zero_RC cells_RV RC_size
def clD (a : Value) : Sem Value := Builtin.clear_ #[118] 0 #[a]
theorem clD_eq (a : Value) : Builtin.clear_ #[118] 0 #[a] = clD a := rfl
attribute [local go_sem ↓] clD_eq
def CompOut (w w' : World) (e : Ending) (ad : Addr) (cap : Nat) (d : Array Rn) : Prop :=
 ∃ k d', e = .returned (.slice (some ad) k cap) /\ MR w' ad d' /\ k <= d.size /\ d'.size = d.size /\ d'.toList.take k = compactUpTo d d.size /\ Kd w w' ad.block
end
section
open Go.RowKit Go.Lib
attribute [local go_sem ↓] ldP_eq stP_eq ldA_eq stA_eq ldD_eq stD_eq
attribute [local go_sem] zeros_SA cells_SAv zero_PC cells_PV fold_PC PC_size
def okD (d : Rn) : Bool := V.isR d.lo && (decide (1 <= d.hi) && decide (d.hi <= 1000000000))
def dotsG (C : List Rn) (r : Nat) : List Rn := (C.filter (fun d => okD d && decide (d.lo = (r : Int)))).map (fun d => ⟨d.hi, d.hi⟩)
structure SI3 (B : Nat) (wb W : World) (F : Nat -> Sl) (G : Nat -> List Rn) : Prop where
 s : Sets W B F
 o : OwnA (B + 1) W F
 l : ∀ r, r < 16 -> (F r).L = G r
 b : Below B wb W
 h : B + 1 <= W.heap.size
theorem SI3.on {B : Nat} {wb W W' : World} {F : Nat -> Sl} {G : Nat -> List Rn} (I : SI3 B wb W F G) (hb : Below W.heap.size W W') : SI3 B wb W' F G :=
 ⟨I.s.below hb, I.o.below hb, I.l, I.b.trans (hb.mono (by have := I.h; omega)), Nat.le_trans I.h hb.size⟩
end
section
open Go.RowKit
attribute [local go_sem ↓] ldP_eq stP_eq ldD_eq stD_eq ldS_eq stS_eq
attribute [local go_sem] cells_PV PC_size zero_SC cells_SV SC_size
variable {w w' w2 W W' : World} {g : Nat}

end
section
open Go.RowKit
attribute [local go_sem ↓] ldP_eq stP_eq ldRe_eq stRe_eq ldD_eq stD_eq K.ld28_eq K.st28_eq
attribute [local go_sem] cells_PV PC_size cells_ReV ReC_size K.cells_EV K.EC_size zero_ReC
variable {w w' w2 W W' : World} {g : Nat}
def covB (r : Rc) (e : K.En) : Bool := (decide (r.s.size = 0) || (r.s.toList == e.sku.toList)) && inB r.p.P e
theorem take_snocR (L : List Rc) (k : Nat) (h : k < L.length) : L.take (k + 1) = L.take k ++ [L.getD k rc0] := by
 rw [List.take_succ_eq_append_getElem h]; simp [List.getD, h]
end
end Go.Proofs.YtalpnhfoaohhhaaGreat
