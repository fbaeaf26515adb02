/- BDs LPu LLtr LSrt LDd LShf -/
import Derived.Test.YtcnciccljblkfaaGreatTk
import Derived.Test.YtcnciccljblkfaaGreatEf27
import Derived.Test.YtcnciccljblkfaaGreatEf30
import Derived.Deep.CutRange
import Derived.Below
import Derived.Test.YtcnciccljblkfaaGreatEf23
import Derived.Laws.MakeOwn
import Derived.Deep.LoopGhost
import Derived.Lib.SlicesCompact
import Derived.Shelf.SlSortCmp.WholeK
import Derived.Test.YtcnciccljblkfaaGreatProg
namespace Go.Proofs.YtcnciccljblkfaaGreat
open Go.RowKit Go.Maps Go.Sort
attribute [local go_sem ↓] ldD_eq stD_eq K.ld28_eq K.st28_eq
attribute [local go_sem] K.cells_EV K.EC_size
theorem keyS : Keyed Tryz.prog 9 := string_keyed Tryz.underlying9
theorem zeroDs (w : World) : (zeroValue 68).run Tryz.prog w = .ok (HsV hs0) w := by kernel_rfl
def dotsS (L : List K.En) (s : ByteArray) : List Rn := (L.filter (fun e => decide (s.size = 0) || decide (e.sku = s))).map dotOf
theorem dotsS_len (L : List K.En) (s : ByteArray) : (dotsS L s).length ≤ L.length := by unfold dotsS; rw [List.length_map]; exact List.length_filter_le _ _
def nilB : ByteArray := ⟨#[]⟩
theorem nilB_of {s : ByteArray} (h : s.size = 0) : s = nilB := by
 obtain ⟨d⟩ := s
 have : d = #[] := Array.eq_empty_of_size_eq_zero h
 rw [this]; rfl
theorem dotsS_snoc {L : List K.En} {e : K.En} (_ : ¬ e.sku.size = 0) (s : ByteArray) :
  rcs (dotsS (L ++ [e]) s) = if s = nilB then rcs (dotsS L s) ++ (RC (dotOf e)).toList else if s = e.sku then rcs (dotsS L s) ++ (RC (dotOf e)).toList else rcs (dotsS L s) := by
 unfold dotsS
 rw [List.filter_append, List.map_append, rcs_append]
 by_cases h0 : s = nilB
 ·subst h0
  have h : List.filter (fun e => decide (nilB.size = 0) || decide (e.sku = nilB)) [e] = [e] := by simp only [show decide (nilB.size = 0) = true from rfl, Bool.true_or, List.filter_cons, List.filter_nil, if_true]
  rw [if_pos rfl, h]
  simp [rcs_one]
 ·have h1 : ¬ s.size = 0 := fun h => h0 (nilB_of h)
  rw [if_neg h0]
  by_cases h2 : s = e.sku
  ·subst h2
   simp [h1, rcs_one]
  ·have h3 : ¬ e.sku = s := fun h => h2 h.symm
   simp [h1, h2, h3, rcs]
def MD (w W : World) (kk : Nat) (L : List K.En) : Prop := ∃ K f, MRo Tryz.prog 9 34 2 (w.heap.size + 1) w W w.heap.size kk K f (fun s => rcs (dotsS L s))
theorem md_app {w W : World} {b B k : Nat} {K : ByteArray → Prop} {f : ByteArray → Hs} {X : ByteArray → List Value} (M : MRo Tryz.prog 9 34 2 B w W b k K f X) (s : ByteArray) (d : Rn) (hn : (f s).n ≤ 8000000000000) :
  ∃ g c2 W2, (Builtin.append_ #[68, 68] 68 #[HsV (f s), .slice (some ⟨W.heap.size, 0, none⟩) 1 1]).run Tryz.prog (W.alloc (.cells (RC d) 34)) = .ok (.slice (some ⟨g, 0, none⟩) ((f s).n + 1) c2) W2 ∧ MRm Tryz.prog 9 34 2 B w W2 b k K f X s ⟨some ⟨g, 0, none⟩, (f s).n + 1, c2⟩ (X s ++ (RC d).toList) ∧ ∀ q, q < W.heap.size → (HsV (f s)).ownBlock ≠ some q → W2.heap[q]? = W.heap[q]? := by
 obtain ⟨i0, hi, hz0, hz1, hz2⟩ := info_parts infoD
 obtain ⟨g, c2, W2, h1, h2, h3⟩ := (M.later (below_new W (.cells (RC d) 34))).app s (ty := 68) Tryz.underlying68 hi hz0 hz1 hz2 (by simp [Value.cells]) (by decide) ⟨W.heap.size, 0, none⟩ 1 (RC d).toList rfl (fun j u hj => by
  rw [Addr.add_lit, Nat.zero_add, World.cell?_alloc_new]
  simpa using hj) (RC_one d) (by unfold maxLen; omega) (by omega)
 exact ⟨g, c2, W2, h1, h2, fun q hq hn => (h3 q (by simp; omega) hn).trans (Below.heap_alloc W _ q hq)⟩
theorem MRo.len {w W : World} {b B k : Nat} {K0 : ByteArray → Prop} {f : ByteArray → Hs} {L : List K.En} (M : MRo Tryz.prog 9 34 2 B w W b k K0 f (fun s => rcs (dotsS L s))) (s : ByteArray) : (f s).n = (dotsS L s).length := by
 have h := (M.rows s).1
 rw [rcs_length] at h
 omega
set_option maxRecDepth 100000 in
set_option maxHeartbeats 3200000 in
theorem dotsBy_any (ao : Option Addr) (n cap : Nat) (L : List K.En) (w : World) (hS : K.ESrc w ao n cap L) (hne : ∀ e ∈ L, ¬ e.sku.size = 0) :
  Calls Tryz.prog 29 #[.slice ao n cap] w fun x w' => ∃ kk, x = .returned (.map (some w.heap.size)) ∧ MD w w' kk L := by
 have HS := hide hS
 have HL : Hid (L.length = n) := hS.1
 have hn := hS.2.2.2.2
 have HNE := hide hne
 have hmm := @run_makeMap Tryz.prog
 obtain ⟨w1, hw1⟩ : ∃ w1, w.alloc (.map #[] 0) = w1 := ⟨_, rfl⟩
 obtain ⟨b, hb⟩ : ∃ b, w.heap.size = b := ⟨_, rfl⟩
 have HM0 : Hid (MD w w1 0 []) := ⟨_, _, hw1 ▸ MRo.start w⟩
 have Hb := hide hb
 clear hS hne
 go_enter Tryz.func29, Tryz.ntmps29
 go_wp2_with fail
 clear hw1 hb
 go_loopw [9] (fun i wr => ∃ k : Nat, k ≤ n ∧ i = .int .i64 (k : Int) ∧ Hid (MD w wr (2 * k) (L.take k))) (fun i _ => n - (intOf i).toNat)
 case atStart => exact ⟨0, Nat.zero_le _, rfl, HM0⟩
 case round =>
  obtain ⟨k, hk, rfl, HM⟩ := hrel
  rename World => wr
  clear HM0
  by_cases hlt : k < n
  ·have hlti : (k : Int) < (n : Int) := by omega
   obtain ⟨K0, f, M⟩ := HM.out
   obtain ⟨ad, hao, A0⟩ := (HS.out.below M.below).at k hlt
   subst hao
   obtain ⟨e, He⟩ : ∃ e, Hid (L.getD k K.en0 = e) := ⟨_, rfl⟩
   have hsk := HS.out.sku k hlt
   have HT := hide (K.take_snoc L k (by rw [HL.out]; exact hlt))
   have hee : ¬ (L.getD k K.en0).sku.size = 0 := HNE.out _ (by rw [List.getD_eq_getElem?_getD, List.getElem?_eq_getElem (by rw [HL.out]; exact hlt)]; exact List.getElem_mem _)
   rw [He.out] at A0 hsk HT hee
   have HEE := hide hee
   have hld := K.run_ld28 A0
   obtain ⟨g7, hg7⟩ : ∃ g7, wr.heap.size = g7 := ⟨_, rfl⟩
   obtain ⟨w7, hst, X7, B7, S7⟩ := K.made wr e g7 hg7
   replace hst : (K.st28 (.pointer (some ⟨g7, 0, none⟩)) (K.EV e)).run Tryz.prog (wr.alloc (.cells #[.int .i64 0, .int .i64 0, .string ⟨#[]⟩, .int .i64 0] 36)) = .ok () w7 := hst
   have M7 := (M.later B7).later (below_drew1 w7)
   have hnl : ∀ s, (f s).n ≤ 8000000000000 := fun s => by rw [M.len s]; have h1 := dotsS_len (L.take k) s; have h2 := List.length_take_le k L; omega
   have hoff : ∀ s, (HsV (f s)).ownBlock ≠ some g7 := fun s h => by have := ((M.rows s).lt g7 h).2; omega
   have HL0 : Hid (∀ W, Below w7.drew.heap.size w7.drew W → (Instr.lookup 63 (.map (some b)) (.string e.sku) false).run Tryz.prog W = .ok (HsV (f e.sku)) W) := fun W hW => by
    have := (M7.later hW).look keyS Tryz.underlying9 Tryz.underlying63 (zeroDs W) e.sku hsk
    rwa [Hb.out] at this
   obtain ⟨g8, c8, w8, ha8, M8, k8⟩ := md_app M7 e.sku (dotOf e) (hnl _)
   obtain ⟨w9, hu9, M9, k9⟩ := M8.put keyS Tryz.underlying9 Tryz.underlying63 hsk (by unfold maxLen; omega)
   rw [Hb.out] at hu9 k9
   have hgb : g7 ≠ b := by have := M.hb; rw [Hb.out] at this; omega
   have z7 : w7.drew.heap[g7]? = w7.heap[g7]? := rfl
   have z8 : w8.heap[g7]? = w7.heap[g7]? := k8 g7 (show g7 < w7.heap.size by omega) (hoff _)
   have z9 : w9.heap[g7]? = w7.heap[g7]? := (k9 g7 (Nat.lt_of_lt_of_le (show g7 < w7.heap.size by omega) (by have := M8.hb.2.2; have := (Array.getElem?_eq_some_iff.1 (z8.trans X7)).1; omega)) hgb).trans z8
   have HSt : Hid (∀ W : World, W.heap[g7]? = w7.heap[g7]? → W.cell? ⟨g7, 2, none⟩ = some (.string e.sku) ∧ (ldD (.pointer (some ⟨g7, 0, none⟩))).run Tryz.prog W = .ok (.agg #[.int .i64 e.rep, .int .i64 e.num]) W) := fun W h => by
    have X : K.Box W g7 36 e := h.trans X7
    exact ⟨X.at.c2, run_ldD (enc_dot X)⟩
   have HZ : Hid (w8.heap[g7]? = w7.heap[g7]? ∧ w9.heap[g7]? = w7.heap[g7]?) := ⟨z8, z9⟩
   have HZA : Hid ((w7.drew.alloc (.cells #[.int .i64 e.rep, .int .i64 e.num] 34)).heap[g7]? = w7.heap[g7]?) := Below.heap_alloc w7.drew _ g7 (show g7 < w7.heap.size by omega)
   have l0 := HL0.out w7.drew (Below.refl _ _)
   have l1 := HL0.out _ (below_new w7.drew (.cells #[.int .i64 e.rep, .int .i64 e.num] 34))
   have l2 : (Instr.lookup 63 (.map (some b)) (.string e.sku) false).run Tryz.prog (w7.alloc (.cells #[.int .i64 e.rep, .int .i64 e.num] 34)).drew = .ok (HsV (f e.sku)) (w7.drew.alloc (.cells #[.int .i64 e.rep, .int .i64 e.num] 34)) := l1
   obtain ⟨K1, f1, X1, M9', hX1⟩ : ∃ K1 f1 X1, MRo Tryz.prog 9 34 2 (w.heap.size + 1) w w9 w.heap.size (2 * k + 1) K1 f1 X1 ∧ ∀ s, X1 s = if s = e.sku then rcs (dotsS (L.take k) s) ++ (RC (dotOf e)).toList else rcs (dotsS (L.take k) s) := ⟨_, _, _, M9, fun s => by
    by_cases h : s = e.sku
    ·subst h; simp
    ·simp [h]⟩
   have hn1 : (f1 nilB).n ≤ 8000000000000 := by
    have h := (M9'.rows nilB).1
    have h1 := dotsS_len (L.take k) nilB
    have h2 := List.length_take_le k L
    rw [hX1] at h
    split at h
    ·rw [List.length_append, rcs_length] at h
     have : (RC (dotOf e)).toList.length = 2 := rfl
     omega
    ·rw [rcs_length] at h
     omega
   have l3 := M9'.look keyS Tryz.underlying9 Tryz.underlying63 (zeroDs w9) nilB (by decide)
   rw [Hb.out] at l3
   obtain ⟨ga, ca, wa, haa, Ma, ka⟩ := md_app M9' nilB (dotOf e) hn1
   obtain ⟨wb, hub, Mb, kb⟩ := Ma.put keyS Tryz.underlying9 Tryz.underlying63 (by decide) (by unfold maxLen; omega)
   rw [Hb.out] at hub
   have HL3 : Hid ((Instr.lookup 63 (.map (some b)) (.string ⟨#[]⟩) false).run Tryz.prog w9 = .ok (.slice (f1 nilB).o (f1 nilB).n (f1 nilB).c) w9) := l3
   have HUB : Hid ((Instr.mapUpdate 63 (.map (some b)) (.string ⟨#[]⟩) (.slice (some ⟨ga, 0, none⟩) ((f1 nilB).n + 1) ca)).run Tryz.prog wa = .ok () wb) := hub
   have HAA : Hid ((Builtin.append_ #[68, 68] 68 #[.slice (f1 nilB).o (f1 nilB).n (f1 nilB).c, .slice (some ⟨w9.heap.size, 0, none⟩) 1 1]).run Tryz.prog (w9.alloc (.cells #[.int .i64 e.rep, .int .i64 e.num] 34)) = .ok (.slice (some ⟨ga, 0, none⟩) ((f1 nilB).n + 1) ca) wa) := haa
   have HMb : Hid (MD w wb (2 * (k + 1)) (L.take (k + 1))) := by
    have hX : (fun s => rcs (dotsS (L.take (k + 1)) s)) = fun u => if u = nilB then X1 nilB ++ (RC (dotOf e)).toList else X1 u := by
     funext s
     rw [HT.out, dotsS_snoc hee s, hX1 s, hX1 nilB]
     have h0 : ¬ nilB = e.sku := fun h => hee (by rw [← h]; rfl)
     by_cases h1 : s = nilB
     ·subst h1; simp [h0]
     ·simp [h1]
    have h := Mb
    rw [← hX] at h
    exact ⟨_, _, h⟩
   have Hlt := hide hlt
   have HA8 : Hid ((Builtin.append_ #[68, 68] 68 #[.slice (f e.sku).o (f e.sku).n (f e.sku).c, .slice (some ⟨w7.heap.size, 0, none⟩) 1 1]).run Tryz.prog (w7.drew.alloc (.cells #[.int .i64 e.rep, .int .i64 e.num] 34)) = .ok (.slice (some ⟨g8, 0, none⟩) ((f e.sku).n + 1) c8) w8) := ha8
   clear A0 X7 B7 S7 M M7 M8 M9 M9' hX1 hn1 l3 haa Ma ka hub Mb kb k8 k9 z7 z8 z9 ha8 hlt hk
   go_upto_region 5 with fail
   clear hst hld
   refine wp_region_held_drew (S := fun W => W.cell? ⟨g7, 2, none⟩ = some (.string e.sku) ∧ (ldD (.pointer (some ⟨g7, 0, none⟩))).run Tryz.prog W = .ok (.agg #[.int .i64 e.rep, .int .i64 e.num]) W) (by kernel_rfl) (HSt.out _ rfl) (fun hHeld => ?_)
   refine wTk 0 ⟨some 13, .move (.tmp 3), 63, "bars.go:53", #[], none⟩ rfl ?_
   refine wTk 1 ⟨some 14, .fieldAddr 36 (.tmp 5) 1, 0, "bars.go:53", #[], none⟩ rfl ?_
   refine wTk 2 ⟨some 15, .load 9 (.tmp 14), 9, "bars.go:53", #[⟨1, .data⟩], none⟩ rfl ?_
   refine wTk 3 ⟨some 16, .move (.tmp 3), 63, "bars.go:53", #[], none⟩ rfl ?_
   refine wTk 4 ⟨some 17, .fieldAddr 36 (.tmp 5) 1, 0, "bars.go:53", #[], none⟩ rfl ?_
   refine wTk 5 ⟨some 18, .load 9 (.tmp 17), 9, "bars.go:53", #[⟨4, .data⟩], none⟩ rfl ?_
   refine wTk 7 ⟨some 20, .fieldAddr 36 (.tmp 5) 0, 0, "bars.go:53", #[], none⟩ rfl ?_
   refine wTk 8 ⟨some 21, .load 34 (.tmp 20), 34, "bars.go:53", #[⟨7, .data⟩], none⟩ rfl ?_
   refine wpAnyH_ready (rs := [6, 9]) (by kernel_rfl) (by simp) ?_
   refine AllReadyH.cons rfl (fun K hK => ?_) ?_
   ·go_simp
    refine hK.out _ _ (HSt.out _ rfl) (fun hHeld => ?_)
    clear hK K
    refine wpAnyH_ready (rs := [9]) (by kernel_rfl) (by simp) (.cons rfl (fun K hK => ?_) .nil)
    go_simp
    refine hK.out _ _ (HSt.out _ HZA.out) (fun hHeld => ?_)
    clear hK K
    refine wpAnyH_ready (rs := [10]) (by kernel_rfl) (by simp) (.cons rfl (fun K hK => ?_) .nil)
    refine step_appM (by rfl) (.tmp 19) (.tmp 22) (by rfl) (by rfl) (by rfl) HA8.out ?_
    refine hK.out _ _ (HSt.out _ HZ.out.1) (fun hHeld => ?_)
    clear hK K
    refine wpAnyH_ready (rs := [11]) (by kernel_rfl) (by simp) (.cons rfl (fun K hK => ?_) .nil)
    go_simp
    refine hK.out _ _ (HSt.out _ HZ.out.2) (fun hHeld => ?_)
    clear hK K
    refine wpAnyH_done (by kernel_rfl) ?_ _
    clear hHeld
    have l3 := HL3.out
    have u3 := HUB.out
    obtain ⟨-, d3⟩ := HSt.out w9 HZ.out.2
    clear l0 l1 l2 hu9
    go_wp2_with (at_builtin; refine seq_appM rfl (.tmp 26) (.tmp 29) rfl rfl rfl HAA.out ?_)
    go_roundw
    case rel => exact ⟨k + 1, Hlt.out, by simp, HMb⟩
    case measure => simp [intOf]; have := Hlt.out; omega
   ·refine AllReadyH.cons rfl (fun K hK => ?_) ?_
    rotate_left
    ·exact AllReadyH.nil
    go_simp
    refine hK.out _ _ (HSt.out _ HZA.out) (fun hHeld => ?_)
    clear hK K
    refine wpAnyH_ready (rs := [6]) (by kernel_rfl) (by simp) (.cons rfl (fun K hK => ?_) .nil)
    go_simp
    refine hK.out _ _ (HSt.out _ HZA.out) (fun hHeld => ?_)
    clear hK K
    refine wpAnyH_ready (rs := [10]) (by kernel_rfl) (by simp) (.cons rfl (fun K hK => ?_) .nil)
    refine step_appM (by rfl) (.tmp 19) (.tmp 22) (by rfl) (by rfl) (by rfl) HA8.out ?_
    refine hK.out _ _ (HSt.out _ HZ.out.1) (fun hHeld => ?_)
    clear hK K
    refine wpAnyH_ready (rs := [11]) (by kernel_rfl) (by simp) (.cons rfl (fun K hK => ?_) .nil)
    go_simp
    refine hK.out _ _ (HSt.out _ HZ.out.2) (fun hHeld => ?_)
    clear hK K
    refine wpAnyH_done (by kernel_rfl) ?_ _
    clear hHeld
    have l3 := HL3.out
    have u3 := HUB.out
    obtain ⟨-, d3⟩ := HSt.out w9 HZ.out.2
    clear l0 l1 l2 hu9
    go_wp2_with (at_builtin; refine seq_appM rfl (.tmp 26) (.tmp 29) rfl rfl rfl HAA.out ?_)
    go_roundw
    case rel => exact ⟨k + 1, Hlt.out, by simp, HMb⟩
    case measure => simp [intOf]; have := Hlt.out; omega
  ·obtain rfl : k = n := by omega
   have HE : Hid (∃ kk, MD w wr kk L) := by
    have h := HM.out
    rw [List.take_of_length_le (by have := HL.out; omega)] at h
    exact ⟨_, h⟩
   go_wp2_with fail
   go_ret
   obtain ⟨kk, h⟩ := HE.out
   exact ⟨kk, by rw [Hb.out]; rfl, h⟩
end Go.Proofs.YtcnciccljblkfaaGreat
namespace Go.Proofs.YtcnciccljblkfaaGreat.K


def Chunked {α : Type} (le : α → α → Prop) (w : Nat) (L : List α) : Prop := ∀ q, ((L.drop (q * w)).take w).Pairwise le
def mrg {α : Type} (le : α → α → Bool) (L : List α) (i mid j en : Nat) : List α := List.merge ((L.drop i).take (mid - i)) ((L.drop j).take (en - j)) le
structure Pass {α : Type} (le : α → α → Bool) (L M : List α) (n q f t : Nat) : Prop where
 hf : f = 2 * t * q
 hl : M.length = min f n
 hp : M.Perm (L.take f)
 hc : Chunked (fun x y => le x y = true) (2 * q) M
end Go.Proofs.YtcnciccljblkfaaGreat.K
namespace Go.Proofs.YtcnciccljblkfaaGreat.K
open Go.RowKit
attribute [local go_sem ↓] ld28_eq st28_eq ld26_eq
attribute [local go_sem] zero_EC cells_EV EC_size
def leE (x y : En) : Bool := !ahead y x
end Go.Proofs.YtcnciccljblkfaaGreat.K
namespace Go.Proofs.YtcnciccljblkfaaGreat.K
open Go.RowKit
attribute [local go_sem ↓] ld28_eq st28_eq
attribute [local go_sem] zero_EC cells_EV EC_size
attribute [local go_sem] fold_EC
def mk22 (a b : Value) : Sem Value := Instr.makeSlice 22 a b
theorem mk22_eq (a b : Value) : Instr.makeSlice 22 a b = mk22 a b := rfl
attribute [local go_sem ↓] mk22_eq
def InOrder (L R : List En) : Prop := R.Perm L ∧ R.Pairwise (fun x y => leE x y = true)
def GivesS (w w' : World) (e : Ending) (L : List En) : Prop := ∃ R, InOrder L R ∧ GivesE w w' e R
end Go.Proofs.YtcnciccljblkfaaGreat.K
namespace Go.Proofs.YtcnciccljblkfaaGreat.K
open Go.RowKit

instance : DecidableEq En := fun a b =>
 decidable_of_iff (a.rep = b.rep ∧ a.num = b.num ∧ a.sku = b.sku ∧ a.qty = b.qty) ⟨fun ⟨h1, h2, h3, h4⟩ => by cases a; cases b; simp_all, fun h => by subst h; exact ⟨rfl, rfl, rfl, rfl⟩⟩
instance : Inhabited En := ⟨en0⟩
def sameDot (x y : En) : Bool := x.rep == y.rep && x.num == y.num
theorem ahead_of {x y : En} (h : leE x y = true) (hs : sameDot y x = false) : ahead x y = true := by
 simp [leE, ahead, sameDot] at *; omega
theorem ahead_trans {x y z : En} (h : ahead x y = true) (h2 : ahead y z = true) : ahead x z = true := by
 simp [ahead] at *; omega
theorem ahead_irr (x : En) : ahead x x = false := by simp [ahead]
theorem ahead_asymm {x y : En} (h : ahead x y = true) : ahead y x = false := by
 simp [ahead] at *; omega
theorem ahead_same {x y : En} (h : ahead x y = true) : sameDot x y = false := by
 simp [ahead, sameDot] at *; omega
theorem same_symm {x y : En} : sameDot x y = sameDot y x := by
 simp [sameDot, Bool.beq_comm]
def Clash (L : List En) : Prop := ∃ x, x ∈ L ∧ ∃ y, y ∈ L ∧ sameDot x y = true ∧ x ≠ y
def Asc (R : List En) : Prop := R.Pairwise (fun x y => ahead x y = true)
def Settled (L R : List En) (e : Int) : Prop := (Clash L ∧ R = [] ∧ e = 10) ∨ (¬ Clash L ∧ e = 0 ∧ Asc R ∧ ∀ x, x ∈ R ↔ x ∈ L)
theorem asc_unique : ∀ {R R' : List En}, Asc R → Asc R' → (∀ x, x ∈ R ↔ x ∈ R') → R = R'
 | [], [], _, _, _ => rfl
 | [], b :: _, _, _, h => absurd ((h b).2 (List.mem_cons_self ..)) (by simp)
 | a :: _, [], _, _, h => absurd ((h a).1 (List.mem_cons_self ..)) (by simp)
 | a :: R, b :: R', h1, h2, h => by
  obtain ⟨a1, a2⟩ := List.pairwise_cons.1 h1
  obtain ⟨b1, b2⟩ := List.pairwise_cons.1 h2
  have e : a = b := by
   rcases List.mem_cons.1 ((h a).1 (List.mem_cons_self ..)) with e | e
   ·exact e
   ·rcases List.mem_cons.1 ((h b).2 (List.mem_cons_self ..)) with e' | e'
    ·exact e'.symm
    ·have := ahead_asymm (a1 b e'); rw [b1 a e] at this; cases this
  subst e
  rw [asc_unique a2 b2 (fun x => ?_)]
  have hx := h x
  simp only [List.mem_cons] at hx
  constructor
  ·intro hm
   rcases hx.1 (Or.inr hm) with e | e
   ·subst e; have := a1 x hm; rw [ahead_irr] at this; cases this
   ·exact e
  ·intro hm
   rcases hx.2 (Or.inr hm) with e | e
   ·subst e; have := b1 x hm; rw [ahead_irr] at this; cases this
   ·exact e
theorem asc_noclash {R L : List En} (h : Asc R) (hm : ∀ x, x ∈ R ↔ x ∈ L) : ¬ Clash L := by
 rintro ⟨x, hx, y, hy, hs, hne⟩
 have hx := (hm x).2 hx
 have hy := (hm y).2 hy
 clear hm
 induction R with
 | nil => simp at hx
 | cons a R ih =>
  obtain ⟨a1, a2⟩ := List.pairwise_cons.1 h
  rcases List.mem_cons.1 hx with e | e
  ·subst e
   rcases List.mem_cons.1 hy with e | e
   ·exact hne e.symm
   ·have := ahead_same (a1 y e); rw [hs] at this; cases this
  ·rcases List.mem_cons.1 hy with e' | e'
   ·subst e'
    have := ahead_same (a1 x e); rw [same_symm, hs] at this; cases this
   ·exact ih a2 e e'
theorem Clash.perm {L R : List En} (h : Clash L) (hm : ∀ x, x ∈ L ↔ x ∈ R) : Clash R := by
 obtain ⟨x, hx, y, hy, r⟩ := h
 exact ⟨x, (hm x).1 hx, y, (hm y).1 hy, r⟩
theorem Settled.perm {L L' R : List En} {e : Int} (h : Settled L R e) (hm : ∀ x, x ∈ L ↔ x ∈ L') : Settled L' R e := by
 rcases h with ⟨c, r, e1⟩ | ⟨c, e1, a, m⟩
 ·exact Or.inl ⟨c.perm hm, r, e1⟩
 ·exact Or.inr ⟨fun c' => c (c'.perm (fun x => (hm x).symm)), e1, a, fun x => (m x).trans (hm x)⟩

def OnceInv (L : List En) (k : Nat) (acc : List En) : Prop := Asc acc ∧ ∀ x, x ∈ acc ↔ x ∈ L.take k
theorem le_at {L : List En} (hL : L.Pairwise (fun x y => leE x y = true)) (i j : Nat) (hij : i < j) (hj : j < L.length) : leE (L.getD i en0) (L.getD j en0) = true := by
 have := List.pairwise_iff_getElem.1 hL i j (by omega) hj hij
 simpa [List.getD, hj, show i < L.length by omega] using this
theorem getD_mem (L : List En) (k : Nat) (h : k < L.length) : L.getD k en0 ∈ L := by
 have : L.getD k en0 = L[k] := by simp [List.getD, h]
 rw [this]; exact List.getElem_mem _
end Go.Proofs.YtcnciccljblkfaaGreat.K
namespace Go.Proofs
open Go.Shelf
def Tryz.sortEn_ren : Go.Shelf.Ren := ⟨fun | 6 => 68 | 15 => 97 | 14 => 100 | 28 => 129 | 29 => 130 | 20 => 133 | 21 => 134 | 22 => 135 | 23 => 136 | 24 => 137 | 25 => 138 | 26 => 139 | 27 => 140 | 46 => 165 | 47 => 161 | 48 => 162 | 49 => 166 | 50 => 167 | 57 => 185 | n => n, fun | 22 => 22 | 24 => 36 | 25 => 54 | 3 => 3 | 39 => 131 | 0 => 0 | 53 => 160 | 55 => 162 | 4 => 4 | 46 => 154 | 45 => 153 | 50 => 124 | 5 => 5 | 9 => 9 | 66 => 181 | 70 => 185 | 76 => 196 | 77 => 137 | n => n, fun | n => n⟩
theorem Tryz.sortEn : Go.Proofs.SlLaysF0.n6 Tryz.prog Tryz.sortEn_ren := {
 mixed := by kernel_rfl
 f6 := ⟨Tryz.f68.name, by decide, Tryz.func68.trans (congrArg some (by kernel_rfl))⟩
 f14 := ⟨Tryz.f100.name, by decide, Tryz.func100.trans (congrArg some (by kernel_rfl))⟩
 f15 := Tryz.func97.trans (congrArg some (by kernel_rfl))
 f20 := ⟨Tryz.f133.name, by decide, Tryz.func133.trans (congrArg some (by kernel_rfl))⟩
 f21 := ⟨Tryz.f134.name, by decide, Tryz.func134.trans (congrArg some (by kernel_rfl))⟩
 f22 := ⟨Tryz.f135.name, by decide, Tryz.func135.trans (congrArg some (by kernel_rfl))⟩
 f23 := ⟨Tryz.f136.name, by decide, Tryz.func136.trans (congrArg some (by kernel_rfl))⟩
 f24 := ⟨Tryz.f137.name, by decide, Tryz.func137.trans (congrArg some (by kernel_rfl))⟩
 f25 := ⟨Tryz.f138.name, by decide, Tryz.func138.trans (congrArg some (by kernel_rfl))⟩
 f26 := ⟨Tryz.f139.name, by decide, Tryz.func139.trans (congrArg some (by kernel_rfl))⟩
 f27 := ⟨Tryz.f140.name, by decide, Tryz.func140.trans (congrArg some (by kernel_rfl))⟩
 f28 := Tryz.func129.trans (congrArg some (by kernel_rfl))
 f29 := Tryz.func130.trans (congrArg some (by kernel_rfl))
 f46 := ⟨Tryz.f165.name, by decide, Tryz.func165.trans (congrArg some (by kernel_rfl))⟩
 f47 := Tryz.func161.trans (congrArg some (by kernel_rfl))
 f48 := Tryz.func162.trans (congrArg some (by kernel_rfl))
 f49 := ⟨Tryz.f166.name, by decide, Tryz.func166.trans (congrArg some (by kernel_rfl))⟩
 f50 := ⟨Tryz.f167.name, by decide, Tryz.func167.trans (congrArg some (by kernel_rfl))⟩
 f57 := ⟨Tryz.f185.name, by decide, Tryz.func185.trans (congrArg some (by kernel_rfl))⟩
 t0 := Tryz.underlying0
 a0 := Tryz.isAgg0
 z0 := Tryz.sizeOf0
 v0 := Tryz.zeroValue0
 t3 := Tryz.underlying3
 a3 := Tryz.isAgg3
 z3 := Tryz.sizeOf3
 v3 := Tryz.zeroValue3
 t4 := Tryz.underlying4
 a4 := Tryz.isAgg4
 z4 := Tryz.sizeOf4
 v4 := Tryz.zeroValue4
 t5 := Tryz.underlying5
 a5 := Tryz.isAgg5
 z5 := Tryz.sizeOf5
 v5 := Tryz.zeroValue5
 t9 := Tryz.underlying9
 a9 := Tryz.isAgg9
 z9 := Tryz.sizeOf9
 v9 := Tryz.zeroValue9
 t22 := Tryz.underlying22
 a22 := Tryz.isAgg22
 z22 := Tryz.sizeOf22
 v22 := Tryz.zeroValue22
 t25 := Tryz.underlying54
 a25 := Tryz.isAgg54
 z25 := Tryz.sizeOf54
 v25 := Tryz.zeroValue54
 t39 := Tryz.underlying131
 a39 := Tryz.isAgg131
 z39 := Tryz.sizeOf131
 v39 := Tryz.zeroValue131
 t45 := Tryz.underlying153
 a45 := Tryz.isAgg153
 z45 := Tryz.sizeOf153
 v45 := Tryz.zeroValue153
 t46 := Tryz.underlying154
 a46 := Tryz.isAgg154
 z46 := Tryz.sizeOf154
 v46 := Tryz.zeroValue154
 t50 := Tryz.underlying124
 a50 := Tryz.isAgg124
 z50 := Tryz.sizeOf124
 v50 := Tryz.zeroValue124
 t53 := Tryz.underlying160
 a53 := Tryz.isAgg160
 z53 := Tryz.sizeOf160
 v53 := Tryz.zeroValue160
 t55 := Tryz.underlying162
 a55 := Tryz.isAgg162
 z55 := Tryz.sizeOf162
 v55 := Tryz.zeroValue162
 t66 := Tryz.underlying181
 a66 := Tryz.isAgg181
 z66 := Tryz.sizeOf181
 v66 := Tryz.zeroValue181
 t70 := Tryz.underlying185
 a70 := Tryz.isAgg185
 z70 := Tryz.sizeOf185
 v70 := Tryz.zeroValue185
 t76 := Tryz.underlying196
 a76 := Tryz.isAgg196
 z76 := Tryz.sizeOf196
 v76 := Tryz.zeroValue196
 t77 := Tryz.underlying137
 a77 := Tryz.isAgg137
 z77 := Tryz.sizeOf137
 v77 := Tryz.zeroValue137 }
end Go.Proofs

