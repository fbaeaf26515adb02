/- BFo BDs LPu LLtr LSrt LDd LShf -/
import Derived.Test.YtmbkmpeongodbaaGreatAm16
import Derived.Test.YtmbkmpeongodbaaGreatAm22
import Derived.Test.YtmbkmpeongodbaaGreatAm24
import Derived.Test.YtmbkmpeongodbaaGreatAm14
import Derived.Deep.CutRange
import Derived.Test.YtmbkmpeongodbaaGreatAm13
import Derived.Test.YtmbkmpeongodbaaGreatAm20
import Derived.Below
import Derived.Test.YtmbkmpeongodbaaGreatAm19
import Derived.Laws.MakeOwn
import Derived.Deep.LoopGhost
import Derived.Lib.SlicesCompact
import Derived.Shelf.SlSortCmp.WholeK
import Derived.Test.YtmbkmpeongodbaaGreatProg
namespace Go.Proofs.YtmbkmpeongodbaaGreat
open Go.RowKit Go.Maps Go.Sort
attribute [local go_sem ↓] ldP_eq stP_eq ldRe_eq stRe_eq
attribute [local go_sem] cells_ReV ReC_size zero_ReC
def MF (w W : World) (kk : Nat) (R : List Rc) : Prop := ∃ f, MRo Tryz.prog 9 26 2 (w.heap.size + 1) w W w.heap.size kk (fun s => ∃ r ∈ R, r.s = s) f (fun s => pvs (ofS R s))
def TxS (w : World) (ao : Option Addr) (m : Nat) (T : List (List UInt8)) : Prop :=
 T.length = m ∧ ∀ t, t < m → ∃ ad, ao = some ad ∧ w.cell? (ad.add t) = some (encStr (T.getD t []))
theorem GivesSs.src {w w' : World} {e : Ending} {T : List (List UInt8)} (h : GivesSs w w' e T) : ∃ ao c, e = .returned (.slice ao T.length c) ∧ TxS w' ao T.length T ∧ Below w.heap.size w w' := by
 obtain ⟨v, rfl, hr, hb⟩ := h
 rcases hr.2 with ⟨h0, h00⟩ | ⟨g, cap, cur, hv, hbg, hgg, hnc, hcm, hcsz, htake⟩
 ·refine ⟨none, 0, by rw [h0, h00], ⟨rfl, fun t ht => ?_⟩, hb⟩
  omega
 ·subst hv
  refine ⟨some ⟨g, 0, none⟩, cap, rfl, ⟨rfl, fun t ht => ⟨_, rfl, ?_⟩⟩, hb⟩
  rw [Addr.add_lit, Nat.zero_add, hr.cellAt t (by omega)]
  simp [List.getD, ht]
def FoA (w w' : World) (x : Ending) (L : List Rc) (n : Nat) : Prop := (OkR L n ∧ ∃ (h : Hs) (F : List Rc), x = .returned (.tuple #[HsV h, .int .i64 0]) ∧ RcS w' h.o h.n h.c F ∧ Below w.heap.size w w' ∧ (∀ ad, h.o = some ad → w.heap.size ≤ ad.block) ∧ FoldOf L F) ∨ (¬ OkR L n ∧ x = .returned (.tuple #[.slice none 0 0, .int .i64 1]) ∧ Below w.heap.size w w')
end Go.Proofs.YtmbkmpeongodbaaGreat
namespace Go.Proofs.YtmbkmpeongodbaaGreat
open Go.RowKit Go.Maps Go.Sort
attribute [local go_sem ↓] ldD_eq stD_eq K.ld28_eq K.st28_eq
attribute [local go_sem] K.cells_EV K.EC_size
def dotsS (L : List K.En) (s : ByteArray) : List Rn := (L.filter (fun e => decide (s.size = 0) || decide (e.sku = s))).map dotOf
def nilB : ByteArray := ⟨#[]⟩
def MD (w W : World) (kk : Nat) (L : List K.En) : Prop := ∃ K f, MRo Tryz.prog 9 44 2 (w.heap.size + 1) w W w.heap.size kk K f (fun s => rcs (dotsS L s))
theorem MRo.len {w W : World} {b B k : Nat} {K0 : ByteArray → Prop} {f : ByteArray → Hs} {L : List K.En} (M : MRo Tryz.prog 9 44 2 B w W b k K0 f (fun s => rcs (dotsS L s))) (s : ByteArray) : (f s).n = (dotsS L s).length := by
 have h := (M.rows s).1
 rw [rcs_length] at h
 omega
end Go.Proofs.YtmbkmpeongodbaaGreat
namespace Go.Proofs.YtmbkmpeongodbaaGreat.K


def Chunked {α : Type} (le : α → α → Prop) (w : Nat) (L : List α) : Prop := ∀ q, ((L.drop (q * w)).take w).Pairwise le
def mrg {α : Type} (le : α → α → Bool) (L : List α) (i mid j en : Nat) : List α := List.merge ((L.drop i).take (mid - i)) ((L.drop j).take (en - j)) le
structure Pass {α : Type} (le : α → α → Bool) (L M : List α) (n q f t : Nat) : Prop where
 hf : f = 2 * t * q
 hl : M.length = min f n
 hp : M.Perm (L.take f)
 hc : Chunked (fun x y => le x y = true) (2 * q) M
end Go.Proofs.YtmbkmpeongodbaaGreat.K
namespace Go.Proofs.YtmbkmpeongodbaaGreat.K
open Go.RowKit
attribute [local go_sem ↓] ld28_eq st28_eq ld26_eq
attribute [local go_sem] zero_EC cells_EV EC_size
def leE (x y : En) : Bool := !ahead y x
end Go.Proofs.YtmbkmpeongodbaaGreat.K
namespace Go.Proofs.YtmbkmpeongodbaaGreat.K
open Go.RowKit
attribute [local go_sem ↓] ld28_eq st28_eq
attribute [local go_sem] zero_EC cells_EV EC_size
attribute [local go_sem] fold_EC
def mk22 (a b : Value) : Sem Value := Instr.makeSlice 22 a b
theorem mk22_eq (a b : Value) : Instr.makeSlice 22 a b = mk22 a b := rfl
attribute [local go_sem ↓] mk22_eq
def InOrder (L R : List En) : Prop := R.Perm L ∧ R.Pairwise (fun x y => leE x y = true)
def GivesS (w w' : World) (e : Ending) (L : List En) : Prop := ∃ R, InOrder L R ∧ GivesE w w' e R
end Go.Proofs.YtmbkmpeongodbaaGreat.K
namespace Go.Proofs.YtmbkmpeongodbaaGreat.K
open Go.RowKit

instance : DecidableEq En := fun a b =>
 decidable_of_iff (a.rep = b.rep ∧ a.num = b.num ∧ a.sku = b.sku ∧ a.qty = b.qty) ⟨fun ⟨h1, h2, h3, h4⟩ => by cases a; cases b; simp_all, fun h => by subst h; exact ⟨rfl, rfl, rfl, rfl⟩⟩
instance : Inhabited En := ⟨en0⟩
def sameDot (x y : En) : Bool := x.rep == y.rep && x.num == y.num
theorem ahead_trans {x y z : En} (h : ahead x y = true) (h2 : ahead y z = true) : ahead x z = true := by
 simp [ahead] at *; omega
def Clash (L : List En) : Prop := ∃ x, x ∈ L ∧ ∃ y, y ∈ L ∧ sameDot x y = true ∧ x ≠ y
def Asc (R : List En) : Prop := R.Pairwise (fun x y => ahead x y = true)
def Settled (L R : List En) (e : Int) : Prop := (Clash L ∧ R = [] ∧ e = 10) ∨ (¬ Clash L ∧ e = 0 ∧ Asc R ∧ ∀ x, x ∈ R ↔ x ∈ L)
def OnceInv (L : List En) (k : Nat) (acc : List En) : Prop := Asc acc ∧ ∀ x, x ∈ acc ↔ x ∈ L.take k
theorem getD_mem (L : List En) (k : Nat) (h : k < L.length) : L.getD k en0 ∈ L := by
 have : L.getD k en0 = L[k] := by simp [List.getD, h]
 rw [this]; exact List.getElem_mem _
end Go.Proofs.YtmbkmpeongodbaaGreat.K
namespace Go.Proofs
open Go.Shelf
def Tryz.sortEn_ren : Go.Shelf.Ren := ⟨fun | 6 => 130 | 15 => 162 | 14 => 163 | 28 => 187 | 29 => 188 | 20 => 189 | 21 => 190 | 22 => 191 | 23 => 192 | 24 => 193 | 25 => 194 | 26 => 195 | 27 => 196 | 46 => 220 | 47 => 216 | 48 => 217 | 49 => 221 | 50 => 222 | 57 => 231 | n => n, fun | 22 => 22 | 24 => 46 | 25 => 96 | 3 => 3 | 39 => 198 | 0 => 0 | 53 => 214 | 55 => 62 | 4 => 4 | 46 => 208 | 45 => 207 | 50 => 183 | 5 => 5 | 9 => 9 | 66 => 232 | 70 => 236 | 76 => 244 | 77 => 74 | n => n, fun | n => n⟩
end Go.Proofs
