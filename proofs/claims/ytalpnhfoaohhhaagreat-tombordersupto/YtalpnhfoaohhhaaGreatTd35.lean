/- LOnr LRu TRj BAe -/
import Derived.Test.YtalpnhfoaohhhaaGreatTd29
import Derived.Test.YtalpnhfoaohhhaaGreatTd30
import Derived.Test.YtalpnhfoaohhhaaGreatTd26
import Derived.Test.YtalpnhfoaohhhaaGreatTd09
import Derived.Maps.AppendAt
import Derived.Laws.AppendOwnNone
namespace Go.Proofs.YtalpnhfoaohhhaaGreat.K
section
open Go.RowKit
attribute [local go_sem ↓] ld28_eq st28_eq ld26_eq
attribute [local go_sem] zero_EC cells_EV EC_size fold_EC
attribute [local go_sem ↓] run_eq28 run_eqD
end
section
open Go.RowKit Go.Lib
attribute [local go_sem ↓] ld28_eq st28_eq
attribute [local go_sem] zero_EC cells_EV EC_size fold_EC
end
end Go.Proofs.YtalpnhfoaohhhaaGreat.K
namespace Go.Proofs.YtalpnhfoaohhhaaGreat
open Go.RowKit
theorem FaBox.ne {W : World} {g : Nat} {m : FacV} (A : FaBox W g m) {a : Addr} {v : Value} (hc : W.cell? a = some v) (hv : ∀ o n c, v ≠ .slice o n c) : a.block ≠ g := by
 rintro rfl
 obtain ⟨b, o, k⟩ := a
 unfold FaBox at A
 have h := World.cell?_spot hc
 obtain rfl : k = none := h
 simp only [World.cell?, A] at hc
 rcases o with _ | _ | _ | _ | o <;> simp [FaC] at hc
 all_goals exact absurd hc.symm (hv _ _ _)
theorem cell_off {W : World} {g : Nat} {a : Addr} (c : Array Value) (h : a.block ≠ g) : (W.setRow g c).cell? a = W.cell? a := by
 unfold World.cell?; rw [setRow_other _ _ _ _ h]
theorem esrc_offF {W : World} {g : Nat} {m : FacV} {ao : Option Addr} {n cap : Nat} {L : List K.En} (A : FaBox W g m) (h : K.ESrc W ao n cap L) (c : Array Value) : K.ESrc (W.setRow g c) ao n cap L := by
 refine ⟨h.1, h.2.1, fun ad e t ht => ?_, h.2.2.2⟩
 have B := h.2.2.1 ad e t ht
 have hb : (ad.add (t * 4)).block ≠ g := A.ne B.c0 (fun _ _ _ h => by cases h)
 exact ⟨by rw [cell_off c hb]; exact B.c0, by rw [cell_off c (by rw [block_add]; exact hb)]; exact B.c1, by rw [cell_off c (by rw [block_add]; exact hb)]; exact B.c2, by rw [cell_off c (by rw [block_add]; exact hb)]; exact B.c3⟩
theorem psrc_offF {W : World} {g : Nat} {m : FacV} {p : Pv} (A : FaBox W g m) (h : PSrc W p) (c : Array Value) : PSrc (W.setRow g c) p := by
 refine ⟨⟨h.vec.1, h.vec.2.1, fun ad e t ht => ?_⟩, ⟨h.cloud.len, h.cloud.nil, fun ad e t ht => ?_, h.cloud.big, h.cloud.cap⟩, h.big⟩
 ·have B := h.vec.2.2 ad e t ht
  rw [cell_off c (A.ne B (fun _ _ _ h => by cases h))]; exact B
 ·have B := h.cloud.cell ad e t ht
  have hb := A.ne B.c0 (fun _ _ _ h => by cases h)
  exact ⟨by rw [cell_off c hb]; exact B.c0, by rw [cell_off c (by rw [block_add]; exact hb)]; exact B.c1, by rw [cell_off c (by rw [block_add]; exact hb)]; exact B.c2⟩
theorem rcs_offF {W : World} {g : Nat} {m : FacV} {ao : Option Addr} {n cap : Nat} {L : List Rc} (A : FaBox W g m) (h : RcS W ao n cap L) (c : Array Value) : RcS (W.setRow g c) ao n cap L := by
 refine ⟨h.len, h.nil, fun ad ha t ht => ?_, fun r hr => ⟨psrc_offF A (h.ok r hr).1 c, (h.ok r hr).2⟩, h.big⟩
 have B := h.at_ ad ha t ht
 have hb := A.ne B.c0 (fun _ _ _ h => by cases h)
 exact ⟨by rw [cell_off c hb]; exact B.c0, by rw [cell_off c (by rw [block_add]; exact hb)]; exact B.c1, by rw [cell_off c (by rw [block_add]; exact hb)]; exact B.c2⟩
theorem FcOk.offF {W : World} {g : Nat} {m : FacV} {f : Fc} (h : FcOk W f) (A : FaBox W g m) (c : Array Value) : FcOk (W.setRow g c) f := ⟨esrc_offF A h.es c, psrc_offF A h.p c, rcs_offF A h.rs c⟩
def FcE (w w' : World) (e : Ending) (D : Fc -> Int -> Prop) : Prop := ∃ f er, e = .returned (.tuple #[FaV (mkF f), .int .i64 er]) /\ FcOk w' f /\ FcR f /\ Below w.heap.size w w' /\ D f er
theorem give_fe {w W : World} {g : Nat} {m0 : FacV} {f : Fc} {er : Int} (D : Fc -> Int -> Prop) (hX : FaBox W g m0) (hF : FcOk W f) (hr : FcR f) (hb : Below w.heap.size w W) (hg : w.heap.size <= g) (hD : D f er) :
  FaBox (W.setRow g (FaC (mkF f))) g (mkF f) /\ FcE w (W.setRow g (FaC (mkF f))) (.returned (.tuple #[FaV (mkF f), .int .i64 er])) D :=
 ⟨hX.setRow, f, er, rfl, hF.offF hX _, hr, below_setRow hb hg, hD⟩
attribute [local go_sem ↓] ldP_eq stP_eq ldFa_eq stFa_eq bldF_eq bsPs_eq
attribute [local go_sem] cells_PV PC_size cells_FaV FaC_size zero_FaZ run_bldF0 run_bldF12 run_bsPs
end Go.Proofs.YtalpnhfoaohhhaaGreat
namespace Go.Proofs.YtalpnhfoaohhhaaGreat.K
open Go.RowKit
theorem OwnE.empty {B0 B : Nat} {w w' : World} (hb : Below B0 w w') (hB : B <= w'.heap.size) (h0 : B0 <= B) : OwnE B0 B w (w'.alloc (.cells #[] 36)) (some ⟨w'.heap.size, 0, none⟩) 0 [] := by
 refine ⟨⟨rfl, Or.inr ⟨w'.heap.size, 0, #[], rfl, hB, heap_alloc_new _ _, Nat.le_refl _, Nat.zero_le _, rfl, rfl⟩⟩, hb.alloc (by omega) _, by simp; omega, h0⟩
theorem OwnE.appRun {B0 B : Nat} {w W : World} {ao : Option Addr} {cap : Nat} {acc : List En} (O : OwnE B0 B w W ao cap acc) (bo : Option Addr) (m c : Nat) (R : List En) (hR : ESrc W bo m c R) (n l : Nat) (hn : acc.length = n) (hl : n + m = l) (hlen : l <= 3518437208883) :
  ∃ a' c' W', (Builtin.append_ #[22, 22] 22 #[.slice ao n cap, .slice bo m c]).run Tryz.prog W = .ok (.slice a' l c') W' /\ OwnE B0 B w W' a' c' (acc ++ R) /\ (∀ q, q < W.heap.size -> (Value.slice ao n cap).ownBlock ≠ some q -> W'.heap[q]? = W.heap[q]?) /\ ((Value.slice a' l c').ownBlock = (Value.slice ao n cap).ownBlock ∨ (Value.slice a' l c').ownBlock = some W.heap.size) /\ W.heap.size <= W'.heap.size := by
 subst hn hl
 obtain ⟨i0, hi, hz0, hz1, hz2⟩ := info_parts info28
 have hB := O.hB
 have hB0 := O.hB0
 cases bo with
 | none =>
  obtain ⟨rfl, rfl⟩ := hR.2.1 rfl
  obtain rfl : R = [] := List.eq_nil_of_length_eq_zero hR.1
  have hrun := run_append_owned_none (P := Tryz.prog) (w := W) B 22 22 36 i0 4 Tryz.underlying22 hi _ acc.length (ecs acc) O.own
  exact ⟨ao, cap, W, hrun, by rw [List.append_nil]; exact O, fun _ _ _ => rfl, .inl rfl, Nat.le_refl _⟩
 | some ad =>
  obtain ⟨v', W2, hrun, hown, hgrow, _, hat⟩ := run_append_own_at (P := Tryz.prog) W B 22 22 36 i0 (.agg #[.int .i64 0, .int .i64 0, .string ⟨#[]⟩, .int .i64 0]) 4 40 Tryz.underlying22 hi hz0 hz1 hz2 rfl (by decide) (.slice ao acc.length cap) acc.length (ecs acc) O.own ad m c (ecs R) (by rw [ecs_length, hR.1]) (fun j u hj => hR.cells j u hj) (ecs_onecell R) (by unfold maxLen; omega) (by omega) hB
  have hrow : ∀ k, (Value.slice ao acc.length cap).ownBlock = some k -> B <= k := fun k hk => (O.own.lt k hk).1
  have hsz := hgrow.size
  have hbel : Below B0 w W2 := O.below.grown hgrow (by omega) (fun k hk => by have := hrow k hk; omega)
  have hm : m = R.length := hR.1.symm
  have hown2 : W2.ownsRow B 36 4 v' (acc ++ R).length (ecs (acc ++ R)) := by rw [List.length_append, ecs_append, <- hm]; exact hown
  rcases hown.2 with ⟨h0, h00⟩ | ⟨g, cap2, cur, hv, r⟩
  ·subst h0
   have e0 : acc.length + m = 0 := h00
   rw [e0]
   refine ⟨none, 0, W2, hrun, ⟨?_, hbel, by omega, hB0⟩, fun q hq hn => hgrow.block q hq (fun e => hn e.symm), hat, hsz⟩
   rw [List.length_append, <- hm, e0] at hown2
   rw [List.length_append, <- hm, e0]
   exact hown2
  ·subst hv
   refine ⟨some ⟨g, 0, none⟩, cap2, W2, hrun, ⟨?_, hbel, by omega, hB0⟩, fun q hq hn => hgrow.block q hq (fun e => hn e.symm), hat, hsz⟩
   rw [List.length_append, <- hm] at hown2 ⊢
   exact hown2
end Go.Proofs.YtalpnhfoaohhhaaGreat.K
