/- BFo ODt BDs LSp BBx -/
import Derived.Test.YtalpnhfoaohhhaaGreatTd21
import Derived.Test.YtalpnhfoaohhhaaGreatTd30
import Derived.Test.YtalpnhfoaohhhaaGreatTd32
import Derived.Test.YtalpnhfoaohhhaaGreatTd14
import Derived.Deep.CutRange
import Derived.Test.YtalpnhfoaohhhaaGreatTd20
import Derived.Test.YtalpnhfoaohhhaaGreatTd19
namespace Go.Proofs.YtalpnhfoaohhhaaGreat
section
open Go.RowKit Go.Maps Go.Sort
attribute [local go_sem ↓] ldP_eq stP_eq ldRe_eq stRe_eq
attribute [local go_sem] cells_ReV ReC_size zero_ReC
def MF (w W : World) (kk : Nat) (R : List Rc) : Prop := ∃ f, MRo Tryz.prog 9 26 2 (w.heap.size + 1) w W w.heap.size kk (fun s => ∃ r ∈ R, r.s = s) f (fun s => pvs (ofS R s))
def TxS (w : World) (ao : Option Addr) (m : Nat) (T : List (List UInt8)) : Prop :=
 T.length = m /\ ∀ t, t < m -> ∃ ad, ao = some ad /\ w.cell? (ad.add t) = some (encStr (T.getD t []))
theorem TxS.below {w w' : World} {ao : Option Addr} {m : Nat} {T : List (List UInt8)} (h : TxS w ao m T) (hb : Below w.heap.size w w') : TxS w' ao m T := by
 refine ⟨h.1, fun t ht => ?_⟩
 obtain ⟨ad, e, hc⟩ := h.2 t ht
 exact ⟨ad, e, (hb.cell (World.block_lt_of_cell? _ _ hc)).trans hc⟩
theorem GivesSs.src {w w' : World} {e : Ending} {T : List (List UInt8)} (h : GivesSs w w' e T) : ∃ ao c, e = .returned (.slice ao T.length c) /\ TxS w' ao T.length T /\ Below w.heap.size w w' := by
 obtain ⟨v, rfl, hr, hb⟩ := h
 rcases hr.2 with ⟨h0, h00⟩ | ⟨g, cap, cur, hv, hbg, hgg, hnc, hcm, hcsz, htake⟩
 ·refine ⟨none, 0, by rw [h0, h00], ⟨rfl, fun t ht => ?_⟩, hb⟩
  omega
 ·subst hv
  refine ⟨some ⟨g, 0, none⟩, cap, rfl, ⟨rfl, fun t ht => ⟨_, rfl, ?_⟩⟩, hb⟩
  rw [Addr.add_lit, Nat.zero_add, hr.cellAt t (by omega)]
  simp [List.getD, ht]
def FoA (w w' : World) (x : Ending) (L : List Rc) (n : Nat) : Prop := (OkR L n /\ ∃ (h : Hs) (F : List Rc), x = .returned (.tuple #[HsV h, .int .i64 0]) /\ RcS w' h.o h.n h.c F /\ Below w.heap.size w w' /\ (∀ ad, h.o = some ad -> w.heap.size <= ad.block) /\ FoldOf L F) ∨ (¬ OkR L n /\ x = .returned (.tuple #[.slice none 0 0, .int .i64 1]) /\ Below w.heap.size w w')
end
section
open Go.RowKit
attribute [local go_sem ↓] ldP_eq stP_eq ldD_eq stD_eq K.ld28_eq K.st28_eq
attribute [local go_sem] cells_PV PC_size
variable {w w' w2 W W' : World} {g : Nat}

def dotOf (e : K.En) : Rn := ⟨e.rep, e.num⟩
def DtA (w w' : World) (x : Ending) (L : List K.En) : Prop := Below w.heap.size w w' /\ ((K.chk L = 0 /\ ∃ p : Pv, x = .returned (.tuple #[PV p, .int .i64 0]) /\ PSrc w' p /\ PNew w.heap.size p /\ CanonOf (dotsG (L.map dotOf)) p.P) ∨ (¬ K.chk L = 0 /\ x = .returned (.tuple #[PV pv0, .int .i64 1])))
end
section
open Go.RowKit Go.Maps Go.Sort
attribute [local go_sem ↓] ldD_eq stD_eq K.ld28_eq K.st28_eq
attribute [local go_sem] K.cells_EV K.EC_size
def dotsS (L : List K.En) (s : ByteArray) : List Rn := (L.filter (fun e => decide (s.size = 0) || decide (e.sku = s))).map dotOf
def nilB : ByteArray := ⟨#[]⟩
def MD (w W : World) (kk : Nat) (L : List K.En) : Prop := ∃ K f, MRo Tryz.prog 9 32 2 (w.heap.size + 1) w W w.heap.size kk K f (fun s => rcs (dotsS L s))
theorem MRo.len {w W : World} {b B k : Nat} {K0 : ByteArray -> Prop} {f : ByteArray -> Hs} {L : List K.En} (M : MRo Tryz.prog 9 32 2 B w W b k K0 f (fun s => rcs (dotsS L s))) (s : ByteArray) : (f s).n = (dotsS L s).length := by
 have h := (M.rows s).1
 rw [rcs_length] at h
 omega
end
end Go.Proofs.YtalpnhfoaohhhaaGreat
namespace Go.Proofs.YtalpnhfoaohhhaaGreat.K
open Go.RowKit

theorem chk_asc {R : List En} (ha : Asc R) (hc : ∀ e ∈ R, ceE e = 0) : chk R = 0 := by
 have key : okN R R.length = true := by
  unfold okN
  rw [List.all_eq_true]
  intro k hk
  have hk' := List.mem_range.1 hk
  unfold okAt
  rw [Bool.and_eq_true]
  refine ⟨?_, ?_⟩
  ·rw [beq_iff_eq]; exact hc _ (getD_mem R k hk')
  ·cases k with
   | zero => rfl
   | succ j =>
    have h := List.pairwise_iff_getElem.1 ha j (j + 1) (by omega) hk' (by omega)
    have e1 : R.getD j en0 = R[j] := by simp [List.getD, show j < R.length by omega]
    have e2 : R.getD (j + 1) en0 = R[j + 1] := by simp [List.getD, hk']
    simp only [Nat.add_sub_cancel, e1, e2, h, Bool.or_true]
 unfold chk; rw [if_pos key]
theorem chk_asc' {R : List En} (h : chk R = 0) : Asc R := by
 refine asc_of_adj R (fun i hi => ?_)
 have := okN_at R _ (chk_zero h) (i + 1) hi
 unfold okAt at this
 rw [Bool.and_eq_true] at this
 simpa using this.2
end Go.Proofs.YtalpnhfoaohhhaaGreat.K
namespace Go.Proofs.YtalpnhfoaohhhaaGreat
open Go.RowKit
theorem chk_ce {L : List K.En} (h : K.chk L = 0) : ∀ e ∈ L, K.ceE e = 0 := fun e he => by
 obtain ⟨k, hk, rfl⟩ := List.getElem_of_mem he
 have h1 := K.okN_at L _ (K.chk_zero h) k hk
 unfold K.okAt at h1
 rw [Bool.and_eq_true] at h1
 have e1 : L.getD k K.en0 = L[k] := by simp [List.getD, List.getElem?_eq_getElem hk]
 rw [e1] at h1
 simpa using h1.1
theorem dot_one {L : List K.En} (h : K.chk L = 0) {x y : K.En} (hx : x ∈ L) (hy : y ∈ L) (e : dotOf x = dotOf y) : x = y := by
 apply Classical.byContradiction
 intro hn
 refine K.asc_noclash (K.chk_asc' h) (fun _ => Iff.rfl) ⟨x, hx, y, hy, ?_, hn⟩
 unfold dotOf at e
 simp only [Rn.mk.injEq] at e
 simp [K.sameDot, e.1, e.2]
def BX (L : List K.En) (F : List Rc) (X : List Pv) : Prop := (∀ r : Nat, r < 16 -> ∀ m, (∃ p ∈ X, mem (runsAt p.P r) m) ↔ ∃ f ∈ F, mem (dotsG (dotsS L f.s) r) m /\ mem (runsAt f.p.P r) m) /\ wt X <= F.length * (L.length + 1)
theorem BX.nil (L : List K.En) : BX L [] [] := ⟨fun r _ m => by simp, Nat.zero_le _⟩
end Go.Proofs.YtalpnhfoaohhhaaGreat
