/- PDk Shd PSd ONa -/
import Derived.Test.YtcnciccljblkfaaGreatTk
import Derived.Test.YtcnciccljblkfaaGreatEf01
import Derived.Laws.AppendOwnNone
import Derived.Shelf.SlSortCmp.WholeK
import Derived.Test.YtcnciccljblkfaaGreatProg
import Derived.Test.YtcnciccljblkfaaGreatEf15
import Derived.Test.YtcnciccljblkfaaGreatEf12
import Derived.Lib.BufferMore
namespace Go.Proofs.YtcnciccljblkfaaGreat
open Go.RowKit

def ldD (v : Value) : Sem Value := Instr.loadAt 34 v
theorem ldD_eq (v : Value) : Instr.loadAt 34 v = ldD v := rfl
def stD (p v : Value) : Sem Unit := Instr.storeAt 34 p v
theorem stD_eq (p v : Value) : Instr.storeAt 34 p v = stD p v := rfl
theorem sizeD : (Tryz.prog.info? 34).map (·.size) = some 2 := by kernel_rfl
theorem infoD : (Tryz.prog.info? 34).map (fun i => (i.zero, i.size, i.bytes)) = some (some (.agg #[.int .i64 0, .int .i64 0]), 2, 16) := by kernel_rfl
theorem run_ldD {w : World} {p : Addr} {r : Rn} (A : RnAt w p r) : (ldD (.pointer (some p))).run Tryz.prog w = .ok (RV r) w := by
 have hl := run_loadCells_list (P := Tryz.prog) (w := w) p (RC r).toList (fun j v hv => by
  match j, hv with
  | 0, hv => cases hv; rw [add_zero]; exact A.c0
  | 1, hv => cases hv; exact A.c1
  | j + 2, hv => simp [RC] at hv)
 unfold ldD
 simp only [Instr.loadAt, Instr.sureAddr, Sem.run_bind, Sem.run_pure, Result.andThen]
 cases hq : Tryz.prog.info? 34 with
 | none => have := sizeD; simp [hq] at this
 | some x =>
  have hs : x.size = 2 := by have := sizeD; simpa [hq] using this
  have hagg : (isAgg 34).run Tryz.prog w = .ok true w := by
   unfold isAgg
   rw [Sem.run_bind, run_underlying Tryz.underlying34 w]
   rfl
  have e2 : (RC r).toList.length = 2 := rfl
  rw [e2] at hl
  simp [loadVar, Sem.run_bind, hagg, sizeOf, typeInfo, hq, hs, hl, RV]
theorem run_stD {w : World} {g : Nat} {T : TypeId} {r r' : Rn} (A : Box w g T r) : (stD (.pointer (some ⟨g, 0, none⟩)) (RV r')).run Tryz.prog w = .ok () (w.setRow g (RC r')) := by
 unfold stD
 have h := run_storeCells_from (P := Tryz.prog) g T (RC r').toList 0 (RC r) w A (by simp [RC]) (RC_one r')
 cases hq : Tryz.prog.info? 34 with
 | none => have := sizeD; simp [hq] at this
 | some x =>
  have hs : x.size = 2 := by have := sizeD; simpa [hq] using this
  simp only [Instr.storeAt, Instr.sureAddr, Sem.run_bind, Sem.run_pure, Result.andThen, storeVar, sizeOf, typeInfo, cells_RV, RC_size]
  simp at h
  simp [h, hq, hs]
theorem madeD (w : World) (r : Rn) (g : Nat) (hg : w.heap.size = g) : ∃ w' : World, (stD (.pointer (some ⟨g, 0, none⟩)) (RV r)).run Tryz.prog (w.alloc (.cells (RC rn0) 34)) = .ok () w' ∧ Box w' g 34 r ∧ Below w.heap.size w w' ∧ w'.heap.size = w.heap.size + 1 := by
 subst hg
 refine ⟨_, run_stD (box_new w 34 rn0), (box_new w 34 rn0).setRow, below_setRow (below_new w _) (Nat.le_refl _), by simp [World.setRow]⟩
structure OwnD (B0 B : Nat) (w w' : World) (ao : Option Addr) (cap : Nat) (acc : List Rn) : Prop where
 own : w'.ownsRow B 34 2 (.slice ao acc.length cap) acc.length (rcs acc)
 below : Below B0 w w'
 hB : B ≤ w'.heap.size
 hB0 : B0 ≤ B
theorem rcs_cell {w : World} {E : List Rn} {ad : Addr} (h : ∀ t, t < E.length → RnAt w (ad.add (t * 2)) (E.getD t rn0)) (j : Nat) (u : Value) (hj : (rcs E)[j]? = some u) : w.cell? (ad.add j) = some u := by
 have hl : j < E.length * 2 := by rw [← rcs_length]; exact (List.getElem?_eq_some_iff.1 hj).1
 have ht : j / 2 < E.length := by omega
 have e := rcs_at E (j / 2) (j % 2) ht (by omega)
 rw [show j / 2 * 2 + j % 2 = j by omega, hj] at e
 have A := h (j / 2) ht
 have h2 : j % 2 = 0 ∨ j % 2 = 1 := by omega
 rcases h2 with h2 | h2
 ·rw [h2] at e
  have e' : u = .int .i64 (E.getD (j / 2) rn0).lo := by simpa [RC] using e
  rw [e', show ad.add j = ad.add (j / 2 * 2) by rw [show j / 2 * 2 = j by omega]]
  exact A.c0
 ·rw [h2] at e
  have e' : u = .int .i64 (E.getD (j / 2) rn0).hi := by simpa [RC] using e
  have := A.c1
  rw [add_add, show j / 2 * 2 + 1 = j by omega] at this
  rw [e']; exact this
theorem OwnD.append {B0 B : Nat} {w w' : World} {ao : Option Addr} {cap : Nat} {acc : List Rn} (O : OwnD B0 B w w' ao cap acc) (E : List Rn) (ad : Addr) (m c : Nat) (hm : E.length = m) (hE : ∀ t, t < m → RnAt w' (ad.add (t * 2)) (E.getD t rn0)) (hlen : acc.length + m ≤ 8796093022207)
  {ops : Array Oper} {rest : List Oper} {o : Oper} {a : Act} {Q : Exit → Act → World → Prop} (hgd : o.guard = none) (s x : Operand) (ho : o.op = .call { callee := .builtin .append, args := #[s, x], argTypes := #[68, 68] })
  (n : Nat) (hn : acc.length = n) (hs : a.eval s = .slice ao n cap) (hx : a.eval x = .slice (some ad) m c)
  (hK : ∀ (ao2 : Option Addr) (cap2 : Nat) (w2 : World), OwnD B0 B w w2 ao2 cap2 (acc ++ E) → wpList Tryz.prog ops Q rest (a.put o.dst (.slice ao2 (n + m) cap2)) w2) :
  wpList Tryz.prog ops Q (o :: rest) a w' := by
 subst hn hm
 obtain ⟨i0, hi, hz0, hz1, hz2⟩ := info_parts infoD
 have hB := O.hB
 have hB0 := O.hB0
 refine wpList_append_own _ hgd s x 68 ho B 34 i0 (.agg #[.int .i64 0, .int .i64 0]) 2 16 Tryz.underlying68 hi hz0 hz1 hz2 rfl (by decide) _ acc.length (rcs acc) hs O.own ad E.length c (rcs E) hx (rcs_length E) (fun j u hj => rcs_cell hE j u hj) (rcs_onecell E) (by unfold maxLen; omega) (by omega) hB ?_
 intro v' w2 hown hgrow _
 have hrow : ∀ k, (Value.slice ao acc.length cap).ownBlock = some k → B ≤ k := fun k hk => (O.own.lt k hk).1
 have hsz := hgrow.size
 have hb2 : Below B0 w w2 := O.below.grown hgrow (by omega) (fun k hk => by have := hrow k hk; omega)
 rw [← rcs_append] at hown
 rcases hown.2 with ⟨h0, h00⟩ | ⟨g, cap2, cur, hv, r⟩
 ·subst h0
  have e1 : acc = [] := List.eq_nil_of_length_eq_zero (by omega)
  have e2 : E = [] := List.eq_nil_of_length_eq_zero (by omega)
  subst e1 e2
  exact hK none 0 w2 ⟨hown, hb2, by omega, hB0⟩
 ·subst hv
  refine hK (some ⟨g, 0, none⟩) cap2 w2 ⟨?_, hb2, by omega, hB0⟩
  rw [List.length_append]; exact hown
theorem OwnD.appendNone {B0 B : Nat} {w w' : World} {ao : Option Addr} {cap : Nat} {acc : List Rn} (O : OwnD B0 B w w' ao cap acc)
  {ops : Array Oper} {rest : List Oper} {o : Oper} {a : Act} {Q : Exit → Act → World → Prop} (hgd : o.guard = none) (s x : Operand) (ho : o.op = .call { callee := .builtin .append, args := #[s, x], argTypes := #[68, 68] })
  (n : Nat) (hn : acc.length = n) (hs : a.eval s = .slice ao n cap) (hx : a.eval x = .slice none 0 0)
  (hK : wpList Tryz.prog ops Q rest (a.put o.dst (.slice ao n cap)) w') :
  wpList Tryz.prog ops Q (o :: rest) a w' := by
 subst hn
 obtain ⟨i0, hi, hz0, hz1, hz2⟩ := info_parts infoD
 exact wpList_append_own_none hgd s x 68 ho B 34 i0 2 Tryz.underlying68 hi _ acc.length (rcs acc) hs O.own hx hK
theorem OwnD.src {B0 B : Nat} {w w' : World} {ao : Option Addr} {cap : Nat} {acc : List Rn} (O : OwnD B0 B w w' ao cap acc) (hl : acc.length ≤ 8796093022207) : RSrc w' ao acc.length cap acc ∧ ∀ ad, ao = some ad → B ≤ ad.block := by
 rcases O.own.2 with ⟨h0, h00⟩ | ⟨g, cap2, cur, hv, hbg, hgg, hnc, hcm, hcsz, htake⟩
 ·simp only [Value.slice.injEq] at h0
  obtain ⟨rfl, e0, rfl⟩ := h0
  exact ⟨⟨rfl, fun _ => ⟨h00, rfl⟩, (fun ad h => by cases h), by omega, Nat.zero_le _, hl⟩, fun ad h => (by cases h)⟩
 ·simp only [Value.slice.injEq, true_and] at hv
  obtain ⟨rfl, rfl⟩ := hv
  have cell : ∀ t j, t < acc.length → j < 2 → w'.cell? ⟨g, t * 2 + j, none⟩ = (RC (acc.getD t rn0)).toList[j]? := fun t j ht hj => by
   rw [O.own.cellAt (t * 2 + j) (by omega), rcs_at _ t j ht hj]
  refine ⟨⟨rfl, fun h => (by cases h), fun ad h t ht => ?_, hnc, hcm, hl⟩, fun ad h => by obtain rfl := Option.some.inj h; exact hbg⟩
  obtain rfl := Option.some.inj h
  refine ⟨?_, ?_⟩
  ·rw [Addr.add_lit, Nat.zero_add]; exact cell t 0 ht (by omega)
  ·rw [Addr.add_lit, Addr.add_lit, Nat.zero_add]; exact cell t 1 ht (by omega)
theorem OwnD.appendS {B0 B : Nat} {w w' : World} {ao : Option Addr} {cap : Nat} {acc : List Rn} (O : OwnD B0 B w w' ao cap acc) (E : List Rn) (xo : Option Addr) (m c : Nat) (S : RSrc w' xo m c E) (hlen : acc.length + m ≤ 8796093022207)
  {ops : Array Oper} {rest : List Oper} {o : Oper} {a : Act} {Q : Exit → Act → World → Prop} (hgd : o.guard = none) (s x : Operand) (ho : o.op = .call { callee := .builtin .append, args := #[s, x], argTypes := #[68, 68] })
  (n : Nat) (hn : acc.length = n) (hs : a.eval s = .slice ao n cap) (hx : a.eval x = .slice xo m c)
  (hK : ∀ (ao2 : Option Addr) (cap2 : Nat) (w2 : World), OwnD B0 B w w2 ao2 cap2 (acc ++ E) → wpList Tryz.prog ops Q rest (a.put o.dst (.slice ao2 (n + m) cap2)) w2) :
  wpList Tryz.prog ops Q (o :: rest) a w' := by
 cases xo with
 | some ad => exact O.append E ad m c S.len (fun t ht => S.cell ad rfl t ht) hlen hgd s x ho n hn hs hx hK
 | none =>
  obtain ⟨rfl, rfl⟩ := S.nil rfl
  have e := List.eq_nil_of_length_eq_zero S.len
  subst e
  refine O.appendNone hgd s x ho n hn hs hx ?_
  have := hK ao cap w'
  rw [List.append_nil, Nat.add_zero] at this
  exact this O
theorem ownD_made (w : World) : OwnD w.heap.size w.heap.size w (w.alloc (.cells #[] 34)) (some ⟨w.heap.size, 0, none⟩) 0 [] :=
 ⟨World.ownsRow_made w #[] 0 (Nat.le_refl _) (Nat.zero_le _) rfl, below_new w _, by simp, Nat.le_refl _⟩
end Go.Proofs.YtcnciccljblkfaaGreat
namespace Go.Proofs
open Go.Shelf
def Tryz.sortD_ren : Go.Shelf.Ren := ⟨fun | 6 => 62 | 15 => 97 | 14 => 96 | 28 => 129 | 29 => 130 | 20 => 121 | 21 => 122 | 22 => 123 | 23 => 124 | 24 => 125 | 25 => 126 | 26 => 127 | 27 => 128 | 46 => 160 | 47 => 161 | 48 => 162 | 49 => 163 | 50 => 164 | 57 => 184 | n => n, fun | 22 => 68 | 24 => 34 | 25 => 97 | 3 => 3 | 39 => 131 | 0 => 0 | 53 => 160 | 55 => 162 | 4 => 4 | 46 => 154 | 45 => 153 | 50 => 124 | 5 => 5 | 9 => 9 | 66 => 181 | 70 => 185 | 76 => 196 | 77 => 137 | n => n, fun | n => n⟩
theorem Tryz.sortD : Go.Proofs.SlLaysF0.n6 Tryz.prog Tryz.sortD_ren := {
 mixed := by kernel_rfl
 f6 := ⟨Tryz.f62.name, by decide, Tryz.func62.trans (congrArg some (by kernel_rfl))⟩
 f14 := ⟨Tryz.f96.name, by decide, Tryz.func96.trans (congrArg some (by kernel_rfl))⟩
 f15 := Tryz.func97.trans (congrArg some (by kernel_rfl))
 f20 := ⟨Tryz.f121.name, by decide, Tryz.func121.trans (congrArg some (by kernel_rfl))⟩
 f21 := ⟨Tryz.f122.name, by decide, Tryz.func122.trans (congrArg some (by kernel_rfl))⟩
 f22 := ⟨Tryz.f123.name, by decide, Tryz.func123.trans (congrArg some (by kernel_rfl))⟩
 f23 := ⟨Tryz.f124.name, by decide, Tryz.func124.trans (congrArg some (by kernel_rfl))⟩
 f24 := ⟨Tryz.f125.name, by decide, Tryz.func125.trans (congrArg some (by kernel_rfl))⟩
 f25 := ⟨Tryz.f126.name, by decide, Tryz.func126.trans (congrArg some (by kernel_rfl))⟩
 f26 := ⟨Tryz.f127.name, by decide, Tryz.func127.trans (congrArg some (by kernel_rfl))⟩
 f27 := ⟨Tryz.f128.name, by decide, Tryz.func128.trans (congrArg some (by kernel_rfl))⟩
 f28 := Tryz.func129.trans (congrArg some (by kernel_rfl))
 f29 := Tryz.func130.trans (congrArg some (by kernel_rfl))
 f46 := ⟨Tryz.f160.name, by decide, Tryz.func160.trans (congrArg some (by kernel_rfl))⟩
 f47 := Tryz.func161.trans (congrArg some (by kernel_rfl))
 f48 := Tryz.func162.trans (congrArg some (by kernel_rfl))
 f49 := ⟨Tryz.f163.name, by decide, Tryz.func163.trans (congrArg some (by kernel_rfl))⟩
 f50 := ⟨Tryz.f164.name, by decide, Tryz.func164.trans (congrArg some (by kernel_rfl))⟩
 f57 := ⟨Tryz.f184.name, by decide, Tryz.func184.trans (congrArg some (by kernel_rfl))⟩
 t0 := Tryz.underlying0
 a0 := Tryz.isAgg0
 z0 := Tryz.sizeOf0
 v0 := Tryz.zeroValue0
 t3 := Tryz.underlying3
 a3 := Tryz.isAgg3
 z3 := Tryz.sizeOf3
 v3 := Tryz.zeroValue3
 t4 := Tryz.underlying4
 a4 := Tryz.isAgg4
 z4 := Tryz.sizeOf4
 v4 := Tryz.zeroValue4
 t5 := Tryz.underlying5
 a5 := Tryz.isAgg5
 z5 := Tryz.sizeOf5
 v5 := Tryz.zeroValue5
 t9 := Tryz.underlying9
 a9 := Tryz.isAgg9
 z9 := Tryz.sizeOf9
 v9 := Tryz.zeroValue9
 t22 := Tryz.underlying68
 a22 := Tryz.isAgg68
 z22 := Tryz.sizeOf68
 v22 := Tryz.zeroValue68
 t25 := Tryz.underlying97
 a25 := Tryz.isAgg97
 z25 := Tryz.sizeOf97
 v25 := Tryz.zeroValue97
 t39 := Tryz.underlying131
 a39 := Tryz.isAgg131
 z39 := Tryz.sizeOf131
 v39 := Tryz.zeroValue131
 t45 := Tryz.underlying153
 a45 := Tryz.isAgg153
 z45 := Tryz.sizeOf153
 v45 := Tryz.zeroValue153
 t46 := Tryz.underlying154
 a46 := Tryz.isAgg154
 z46 := Tryz.sizeOf154
 v46 := Tryz.zeroValue154
 t50 := Tryz.underlying124
 a50 := Tryz.isAgg124
 z50 := Tryz.sizeOf124
 v50 := Tryz.zeroValue124
 t53 := Tryz.underlying160
 a53 := Tryz.isAgg160
 z53 := Tryz.sizeOf160
 v53 := Tryz.zeroValue160
 t55 := Tryz.underlying162
 a55 := Tryz.isAgg162
 z55 := Tryz.sizeOf162
 v55 := Tryz.zeroValue162
 t66 := Tryz.underlying181
 a66 := Tryz.isAgg181
 z66 := Tryz.sizeOf181
 v66 := Tryz.zeroValue181
 t70 := Tryz.underlying185
 a70 := Tryz.isAgg185
 z70 := Tryz.sizeOf185
 v70 := Tryz.zeroValue185
 t76 := Tryz.underlying196
 a76 := Tryz.isAgg196
 z76 := Tryz.sizeOf196
 v76 := Tryz.zeroValue196
 t77 := Tryz.underlying137
 a77 := Tryz.isAgg137
 z77 := Tryz.sizeOf137
 v77 := Tryz.zeroValue137 }
end Go.Proofs
namespace Go.Proofs.YtcnciccljblkfaaGreat
open Go.RowKit Go.Sort

def or2 (a b : Int) : Int := if a = 0 then b else a
set_option maxHeartbeats 800000 in
theorem or2_any (g : Nat) (a b : Int) (w : World) (c0 : w.cell? ⟨g, 0, none⟩ = some (.int .i64 a)) (c1 : w.cell? ⟨g, 1, none⟩ = some (.int .i64 b)) :
  Calls Tryz.prog 43 #[.slice (some ⟨g, 0, none⟩) 2 2] w fun e w' => e = .returned (.int .i64 (or2 a b)) ∧ w' = w := by
 go_enter Tryz.func43, Tryz.ntmps43
 go_wp2
 go_loop [8] (fun i => ∃ k : Nat, k ≤ 2 ∧ i = .int .i64 k ∧ Hid (0 < k → a = 0) ∧ Hid (1 < k → b = 0)) (fun i => 2 - (intOf i).toNat)
 case atStart => exact ⟨0, Nat.zero_le _, rfl, fun h => absurd h (by omega), fun h => absurd h (by omega)⟩
 case round =>
  obtain ⟨k, hk, rfl, Ha, Hb⟩ := hrel
  by_cases hlt : k < 2
  ·obtain ⟨z, hcell, Hz⟩ : ∃ z, w.cell? ⟨g, k, none⟩ = some (.int .i64 z) ∧ Hid (or2 a b = if z = 0 ∧ k = 0 then b else z) := by
    match k, hlt, Ha with
    | 0, _, _ => exact ⟨a, c0, by show _ = _; unfold or2; by_cases h : a = 0 <;> simp [h]⟩
    | 1, _, Ha => exact ⟨b, c1, by show _ = _; unfold or2; rw [if_pos (Ha.out (by omega))]; simp⟩
   have Hz0 : Hid (z = 0 → (k = 0 → a = 0) ∧ (k = 1 → b = 0)) := by
    intro hz
    constructor
    ·intro h; subst h; rw [c0] at hcell; simpa [hz] using hcell
    ·intro h; subst h; rw [c1] at hcell; simpa [hz] using hcell
   clear c0 c1
   by_cases h0 : z = 0
   ·have hA := (Hz0.out h0).1
    have hB := (Hz0.out h0).2
    have HA : Hid (0 < k + 1 → a = 0) := by intro _; by_cases hk0 : k = 0; exact hA hk0; exact Ha.out (by omega)
    have HB : Hid (1 < k + 1 → b = 0) := by intro _; exact hB (by omega)
    have h0' : (z != 0) = false := by simpa using h0
    clear h0 hA hB
    go_wp2
    go_round
    case rel => exact ⟨k + 1, by omega, by go_num, HA, HB⟩
    case measure => simp [intOf]; omega
   ·have h0' : (z != 0) = true := by simpa using h0
    have HF : Hid (or2 a b = z) := by show _ = _; rw [Hz.out, if_neg (by simp [h0])]
    clear h0
    go_wp2
    go_ret
    exact ⟨ret_int HF.out.symm, rfl⟩
  ·have HF : Hid (or2 a b = 0) := by show _ = _; unfold or2; rw [if_pos (Ha.out (by omega))]; exact Hb.out (by omega)
   clear c0 c1
   go_wp2
   go_ret
   exact ⟨ret_int HF.out.symm, rfl⟩
def byD (x y : Rn) : Int := or2 (cmpI x.lo y.lo) (cmpI x.hi y.hi)
def aheadD (x y : Rn) : Bool := decide (x.lo < y.lo) || (x.lo == y.lo && decide (x.hi < y.hi))
theorem byD_lt (x y : Rn) : ltOf byD x y = aheadD x y := by
 unfold ltOf byD or2 cmpI aheadD
 by_cases h1 : x.lo < y.lo
 ·simp [h1]
 ·by_cases h2 : y.lo < x.lo
  ·have : ¬ x.lo = y.lo := by omega
   simp [h1, h2, this]
  ·have e : x.lo = y.lo := by omega
   by_cases h3 : x.hi < y.hi
   ·simp [e, h3]
   ·by_cases h4 : y.hi < x.hi <;> simp [e, h3, h4]
theorem byD_swo : SWO (ltOf byD) where
 irrefl x := by rw [byD_lt]; simp [aheadD]
 trans x y z h1 h2 := by rw [byD_lt] at *; simp [aheadD] at *; omega
 ntrans x y z h1 h2 := by rw [byD_lt] at *; simp [aheadD] at *; omega
theorem grew_by (w : World) (a b c : Obj) : Grew w (((w.alloc a).alloc b).drew.alloc c) := by
 refine ⟨1, #[a] ++ #[b] ++ #[c], ?_⟩
 rw [alloc_eq_grow ((w.alloc a).alloc b).drew c, alloc_eq_grow (w.alloc a) b, alloc_eq_grow w a, grow_grow, drew_grow, grow_grow]
 rfl
structure TwoD (w W : World) (x y : Rn) : Prop where
 below : Below w.heap.size w W
 size : w.heap.size + 2 ≤ W.heap.size
 a0 : W.cell? ⟨w.heap.size, 0, none⟩ = some (.int .i64 x.lo)
 a1 : W.cell? ⟨w.heap.size, 1, none⟩ = some (.int .i64 x.hi)
 b0 : W.cell? ⟨w.heap.size + 1, 0, none⟩ = some (.int .i64 y.lo)
 b1 : W.cell? ⟨w.heap.size + 1, 1, none⟩ = some (.int .i64 y.hi)
theorem TwoD.start (w : World) (x y : Rn) : TwoD w ((w.alloc (.cells #[.int .i64 x.lo, .int .i64 x.hi] 34)).alloc (.cells #[.int .i64 y.lo, .int .i64 y.hi] 34)) x y :=
 ⟨(below_new w _).trans ((below_new _ _).mono (by simp)), by simp, by simp, by simp, by simp, by simp⟩
theorem TwoD.on {w W W' : World} {x y : Rn} (h : TwoD w W x y) (hb : Below W.heap.size W W') : TwoD w W' x y :=
 ⟨h.below.trans (hb.mono h.below.size), Nat.le_trans h.size hb.size, (hb.cell (World.block_lt_of_cell? _ _ h.a0)).trans h.a0, (hb.cell (World.block_lt_of_cell? _ _ h.a1)).trans h.a1, (hb.cell (World.block_lt_of_cell? _ _ h.b0)).trans h.b0, (hb.cell (World.block_lt_of_cell? _ _ h.b1)).trans h.b1⟩
theorem or2_new (a b : Int) (w : World) (g : Nat) (hg : w.heap.size = g) : Calls Tryz.prog 43 #[.slice (some ⟨g, 0, none⟩) 2 2] (w.alloc (.cells #[.int .i64 a, .int .i64 b] 3)) fun e w' => e = .returned (.int .i64 (or2 a b)) ∧ w' = w.alloc (.cells #[.int .i64 a, .int .i64 b] 3) := by
 subst hg
 exact or2_any w.heap.size a b _ (by simp) (by simp)
set_option maxHeartbeats 1600000 in
theorem byDot_gr (x y : Rn) (w : World) : Calls Tryz.prog 63 #[.agg #[.int .i64 x.lo, .int .i64 x.hi], .agg #[.int .i64 y.lo, .int .i64 y.hi]] w fun e w' => e = .returned (.int .i64 (byD x y)) ∧ Grew w w' := by
 have T0 := hide (TwoD.start w x y)
 obtain ⟨w0, Hw0⟩ : ∃ w0, Hid ((w.alloc (.cells #[.int .i64 x.lo, .int .i64 x.hi] 34)).alloc (.cells #[.int .i64 y.lo, .int .i64 y.hi] 34) = w0) := ⟨_, rfl⟩
 rw [Hw0.out] at T0
 have c1 := T0.out.a0
 have c2 := T0.out.a1
 have c3 := T0.out.b0
 have c4 := T0.out.b1
 obtain ⟨p, Hp⟩ : ∃ p, Hid (cmpI x.lo y.lo = p) := ⟨_, rfl⟩
 obtain ⟨q, Hq⟩ : ∃ q, Hid (cmpI x.hi y.hi = q) := ⟨_, rfl⟩
 have C1 : Hid (∀ W, Calls Tryz.prog 44 #[.int .i64 x.lo, .int .i64 y.lo] W fun e w' => e = .returned (.int .i64 p) ∧ w' = W) := fun W => by rw [← Hp.out]; exact cmp_any _ _ W
 have C2 : Hid (∀ W, Calls Tryz.prog 44 #[.int .i64 x.hi, .int .i64 y.hi] W fun e w' => e = .returned (.int .i64 q) ∧ w' = W) := fun W => by rw [← Hq.out]; exact cmp_any _ _ W
 have HF : Hid (or2 p q = byD x y) := by show _ = _; unfold byD; rw [Hp.out, Hq.out]
 have T1 : Hid (TwoD w (w0.drew.alloc (.cells #[.int .i64 p, .int .i64 q] 3)) x y) := (T0.out.on (below_drew1 _)).on (below_new _ _)
 have HO := hide (or2_new p q w0.drew w0.heap.size rfl)
 have HG : Hid (Grew w (w0.drew.alloc (.cells #[.int .i64 p, .int .i64 q] 3))) := by rw [← Hw0.out]; exact grew_by _ _ _ _
 obtain ⟨r, m⟩ := x
 obtain ⟨r', m'⟩ := y
 go_enter Tryz.func63, Tryz.ntmps63
 go_wp2_with fail
 rw [Hw0.out]
 first | (go_region_held (fun W => W.cell? ⟨w.heap.size, 0, none⟩ = some (.int .i64 r) ∧ W.cell? ⟨w.heap.size, 1, none⟩ = some (.int .i64 m) ∧ W.cell? ⟨w.heap.size + 1, 0, none⟩ = some (.int .i64 r') ∧ W.cell? ⟨w.heap.size + 1, 1, none⟩ = some (.int .i64 m')) (first | exact ⟨T1.out.a0, T1.out.a1, T1.out.b0, T1.out.b1⟩ | go_keep) (first | (go_at_call_of 44 r; refine (C1.out _).mono ?_; rintro e w' ⟨rfl, rfl⟩) | (go_at_call_of 44 m; refine (C2.out _).mono ?_; rintro e w' ⟨rfl, rfl⟩) | (go_at_call 43; refine HO.out.mono ?_; rintro e w' ⟨rfl, rfl⟩))) | fail
 all_goals (go_wp2_with fail)
 all_goals go_ret
 all_goals exact ⟨ret_int HF.out, HG.out⟩
theorem cmpLaysD (blk size : Nat) (w : World) : CmpLays Tryz.prog 63 #[] encR 2 byD blk 0 size w :=
 fun _ _ _ _ x y => byDot_gr x y _
theorem sortD_any (ad : Addr) (cap n : Nat) (d : Array Rn) (w : World) (M : MR w ad d) (hn : d.size = n) (hb : n ≤ 8796093022207) :
  Calls Tryz.prog 62 #[.slice (some ad) n cap, .func (.func 63) #[] #[]] w fun e w' => e = .returned (.tuple #[]) ∧ ∃ d', d'.toList.Perm d.toList ∧ d'.size = n ∧ MR w' ad d' ∧ Below ad.block w w' := by
 subst hn
 have eg : ∀ args w, (callFunc 63 args).run Tryz.prog w = .ok (.enter 63 args) w := enters_of Tryz.func63 (by kernel_rfl) rfl
 have h := AnyQ.slices_SortFunc Tryz.sortD 2 Tryz.isAgg34 Tryz.sizeOf34 encR (fun _ => rfl) (fun x v hv => RC_one x v hv) byD byD_swo 63 #[] ad.block 0 cap d w eg (cmpLaysD ad.block d.size w) M.hk M.lt (by omega)
 rw [← M.ha] at h
 refine Calls.mono h ?_
 rintro e w' ⟨rfl, d', m, os, ⟨hs, _, hp⟩, _, rfl⟩
 refine ⟨rfl, d', ?_, hs, ⟨holdsK_sortWorldK_c encR 2 w ad.block 0 d d' m os M.hk M.lt hs, ?_, M.ha⟩, ?_⟩
 ·have e1 : d'.extract 0 d.size = d' := by rw [← hs]; simp
  have e2 : d.extract 0 d.size = d := by simp
  rwa [e1, e2] at hp
 ·have := M.lt
  show ad.block < ((putRow id (Sort.ahead w m) ad.block 0 (flatK encR 2 d')).heap ++ os).size
  rw [Array.size_append, size_putRow]
  show ad.block < w.heap.size + os.size
  omega
 ·have h1 : Below ad.block w (putRow id (Sort.ahead w m) ad.block 0 (flatK encR 2 d')) := Lib.below_putRow (Below.refl _ _) (Nat.le_refl _)
  refine h1.trans ?_
  have hsz : ad.block ≤ (putRow id (Sort.ahead w m) ad.block 0 (flatK encR 2 d')).heap.size := by rw [size_putRow]; exact Nat.le_of_lt M.lt
  show Below ad.block _ (grow (putRow id (Sort.ahead w m) ad.block 0 (flatK encR 2 d')) os)
  generalize putRow id (Sort.ahead w m) ad.block 0 (flatK encR 2 d') = V at hsz
  exact ⟨rfl, rfl, rfl, by show _ ≤ (V.heap ++ os).size; rw [Array.size_append]; omega, fun k hk => by show (V.heap ++ os)[k]? = _; rw [Array.getElem?_append_left (by omega)]⟩
theorem OwnD.mr {B0 B : Nat} {w w' : World} {ad : Addr} {cap : Nat} {acc : List Rn} (O : OwnD B0 B w w' (some ad) cap acc) : MR w' ad acc.toArray ∧ B ≤ ad.block ∧ acc.length ≤ cap ∧ cap ≤ maxLen := by
 rcases O.own.2 with ⟨h0, _⟩ | ⟨g, c, cur, hv, hbg, hgg, hnc, hcm, hcsz, htake⟩
 ·cases h0
 ·simp only [Value.slice.injEq, Option.some.injEq, true_and] at hv
  obtain ⟨rfl, rfl⟩ := hv
  refine ⟨⟨fun j hj => ?_, (Array.getElem?_eq_some_iff.1 hgg).1, rfl⟩, hbg, hnc, hcm⟩
  rw [Sort.size_flatK] at hj
  have hj' : j < acc.length * 2 := by simpa using hj
  refine ⟨?_, by simp [World.frozen?, hgg]⟩
  rw [Nat.zero_add, O.own.cellAt j (by omega), Sort.get_flatK _ _ _ _ hj]
  have e4 := rcs_at acc (j / 2) (j % 2) (by omega) (by omega)
  rw [show j / 2 * 2 + j % 2 = j by omega] at e4
  rw [e4]
  have e5 : acc.toArray[j / 2]! = acc.getD (j / 2) rn0 := by
   rw [getElem!_pos acc.toArray (j / 2) (by simp; omega)]; simp [List.getD, show j / 2 < acc.length by omega]
  rw [e5]
  have : j % 2 = 0 ∨ j % 2 = 1 := by omega
  rcases this with h | h <;> rw [h] <;> rfl
set_option maxRecDepth 100000 in
theorem cloneD_any (ad : Addr) (n c : Nat) (D : List Rn) (w : World) (hS : RSrc w (some ad) n c D) :
  Calls Tryz.prog 61 #[.slice (some ad) n c] w fun e w' => ∃ ao c', e = .returned (.slice ao n c') ∧ OwnD w.heap.size w.heap.size w w' ao c' D := by
 have HO := hide (ownD_made w)
 have HS := hide (hS.below (below_new w (.cells #[] 34)))
 have HB := hS.big
 have hnil : (binOp .eql 68 (.slice (some ad) n c) (.slice none 0 0)).run Tryz.prog w = .ok (.bool false) w := Lib.run_eql_slice_some_nil w _ _ _ Tryz.underlying68
 clear hS
 go_enter Tryz.func61, Tryz.ntmps61
 go_wp2_with (at_builtin; refine HO.out.appendS D (some ad) n c HS.out (by simp only [List.length_nil]; omega) rfl (.tmp 5) (.tmp 6) rfl 0 rfl rfl rfl ?_; intro ao3 c3 w3 O3; rw [List.nil_append] at O3; have HO3 := hide O3; clear O3)
 go_ret
 exact ⟨ao3, c3, by simp, HO3.out⟩
set_option maxRecDepth 100000 in
theorem compact1_any (ao : Option Addr) (n c : Nat) (w : World) (hn : n < 2) :
  Calls Tryz.prog 64 #[.slice ao n c] w fun e w' => e = .returned (.slice ao n c) ∧ w' = w := by
 have h : (n : Int) < 2 := by omega
 go_enter Tryz.func64, Tryz.ntmps64
 go_wp2_with fail
 go_ret
 exact ⟨rfl, rfl⟩
end Go.Proofs.YtcnciccljblkfaaGreat
namespace Go.Proofs.YtcnciccljblkfaaGreat
open Go.RowKit

def nrC (s : Sn) (d : Rn) : Int := or2 (cmpI s.rep d.lo) (cmpI s.hi d.hi)
theorem nrC_neg (s : Sn) (d : Rn) : nrC s d < 0 ↔ s.rep < d.lo ∨ (s.rep = d.lo ∧ s.hi < d.hi) := by
 unfold nrC or2 cmpI
 by_cases h1 : s.rep < d.lo
 ·simp [h1]
 ·by_cases h2 : d.lo < s.rep
  ·simp [h1, h2]; omega
  ·have h3 : s.rep = d.lo := by omega
   by_cases h4 : s.hi < d.hi
   ·simp [h3, h4]
   ·by_cases h5 : d.hi < s.hi <;> simp [h3, h4, h5]
set_option maxRecDepth 100000 in
set_option maxHeartbeats 1600000 in
theorem nrC_any (s : Sn) (d : Rn) (w : World) : Calls Tryz.prog 90 #[SV s, RV d] w fun e w' => e = .returned (.int .i64 (nrC s d)) ∧ Below w.heap.size w w' := by
 have b1 := below_new w (.cells (SC s) 76)
 have x1 := sbox_new w s
 have s1 := World.size_alloc w (.cells (SC s) 76)
 obtain ⟨w1, hw1⟩ : ∃ w1, w.alloc (.cells (SC s) 76) = w1 := ⟨_, rfl⟩
 obtain ⟨g1, hg1⟩ : ∃ g1, w.heap.size = g1 := ⟨_, rfl⟩
 rw [hw1] at b1 x1 s1
 rw [hg1] at x1 s1
 have b2 := below_new w1 (.cells (RC d) 34)
 have x2 := box_new w1 34 d
 obtain ⟨w2, hw2⟩ : ∃ w2, w1.alloc (.cells (RC d) 34) = w2 := ⟨_, rfl⟩
 rw [hw2] at b2 x2
 rw [s1] at x2
 have HB := hide (b1.trans (b2.mono b1.size))
 have HX : Hid (SBox w2 g1 s ∧ Box w2 (g1 + 1) 34 d) := ⟨x1.below b2, x2⟩
 have HSt : Hid (∀ W, Below w2.heap.size w2 W → W.cell? ⟨g1, 0, none⟩ = some (.int .i64 s.rep) ∧ W.cell? ⟨g1, 2, none⟩ = some (.int .i64 s.hi) ∧ W.cell? ⟨g1 + 1, 0, none⟩ = some (.int .i64 d.lo) ∧ W.cell? ⟨g1 + 1, 1, none⟩ = some (.int .i64 d.hi)) := fun W hW => by
  obtain ⟨c0, -, c2⟩ := (HX.out.1.below hW).at
  have hd := (HX.out.2.below hW).at
  exact ⟨c0, c2, hd.c0, hd.c1⟩
 obtain ⟨p, Hp⟩ : ∃ p, Hid (cmpI s.rep d.lo = p) := ⟨_, rfl⟩
 obtain ⟨q, Hq⟩ : ∃ q, Hid (cmpI s.hi d.hi = q) := ⟨_, rfl⟩
 have HR : Hid (nrC s d = or2 p q) := by show _ = _; unfold nrC; rw [Hp.out, Hq.out]
 clear b1 b2 x1 x2
 go_enter Tryz.func90, Tryz.ntmps90
 go_wp2_with fail
 clear hw1 hw2 s1 hg1
 refine wp_region_held_drew (S := fun W => W.cell? ⟨g1, 0, none⟩ = some (.int .i64 s.rep) ∧ W.cell? ⟨g1, 2, none⟩ = some (.int .i64 s.hi) ∧ W.cell? ⟨g1 + 1, 0, none⟩ = some (.int .i64 d.lo) ∧ W.cell? ⟨g1 + 1, 1, none⟩ = some (.int .i64 d.hi)) (by kernel_rfl) (HSt.out _ (below_drew1 w2)) (fun hHeld => ?_)
 refine wTk 0 ⟨some 5, .fieldAddr 76 (.tmp 2) 0, 0, "picks.go:85", #[], none⟩ rfl ?_
 refine wTk 1 ⟨some 6, .load 3 (.tmp 5), 3, "picks.go:85", #[⟨0, .data⟩], none⟩ rfl ?_
 refine wTk 2 ⟨some 7, .fieldAddr 34 (.tmp 3) 0, 0, "picks.go:85", #[], none⟩ rfl ?_
 refine wTk 3 ⟨some 8, .load 3 (.tmp 7), 3, "picks.go:85", #[⟨2, .data⟩], none⟩ rfl ?_
 refine wTk 5 ⟨some 10, .fieldAddr 76 (.tmp 2) 2, 0, "picks.go:85", #[], none⟩ rfl ?_
 refine wTk 6 ⟨some 11, .load 3 (.tmp 10), 3, "picks.go:85", #[⟨5, .data⟩], none⟩ rfl ?_
 refine wTk 7 ⟨some 12, .fieldAddr 34 (.tmp 3) 1, 0, "picks.go:85", #[], none⟩ rfl ?_
 refine wTk 8 ⟨some 13, .load 3 (.tmp 12), 3, "picks.go:85", #[⟨7, .data⟩], none⟩ rfl ?_
 refine wpAnyH_ready (rs := [4]) (by kernel_rfl) (by simp) (.cons rfl (fun K hK => ?_) .nil)
 go_simp
 go_wp2_with fail
 refine (cmp_any s.rep d.lo _).mono ?_
 rintro e w' ⟨rfl, rfl⟩
 rw [Hp.out]
 refine hK.out _ _ (HSt.out _ (below_drew1 w2)) (fun hHeld => ?_)
 clear hK K
 refine wpAnyH_ready (rs := [9]) (by kernel_rfl) (by simp) (.cons rfl (fun K hK => ?_) .nil)
 go_simp
 go_wp2_with fail
 refine (cmp_any s.hi d.hi _).mono ?_
 rintro e w' ⟨rfl, rfl⟩
 rw [Hq.out]
 refine hK.out _ _ (HSt.out _ (below_drew1 w2)) (fun hHeld => ?_)
 clear hK K
 have HB3 := hide ((below_drew1 w2).trans (below_new w2.drew (.cells #[.int .i64 p, .int .i64 q] 3)))
 have HO := hide (or2_new p q w2.drew w2.heap.size rfl)
 refine wpAnyH_ready (rs := [10]) (by kernel_rfl) (by simp) (.cons rfl (fun K hK => ?_) .nil)
 go_simp
 refine hK.out _ _ (HSt.out _ HB3.out) (fun hHeld => ?_)
 clear hK K
 refine wpAnyH_ready (rs := [11]) (by kernel_rfl) (by simp) (.cons rfl (fun K hK => ?_) .nil)
 go_simp
 go_wp2_with fail
 refine HO.out.mono ?_
 rintro e w' ⟨rfl, rfl⟩
 refine hK.out _ _ (HSt.out _ HB3.out) (fun hHeld => ?_)
 clear hK K
 refine wTk 12 ⟨some 4, .assign (.tmp 16), 3, "picks.go:85", #[⟨11, .data⟩, ⟨11, .chain⟩, ⟨0, .phase⟩, ⟨1, .phase⟩, ⟨2, .phase⟩, ⟨3, .phase⟩, ⟨4, .phase⟩, ⟨5, .phase⟩, ⟨6, .phase⟩, ⟨7, .phase⟩, ⟨8, .phase⟩, ⟨9, .phase⟩, ⟨10, .phase⟩, ⟨11, .phase⟩], none⟩ rfl ?_
 refine wpAnyH_done (by kernel_rfl) ?_ _
 clear hHeld
 go_wp2_with fail
 go_ret
 exact ⟨ret_int HR.out.symm, HB.out.trans (HB3.out.mono HB.out.size)⟩
end Go.Proofs.YtcnciccljblkfaaGreat

