/- USp USq USr USs UPr -/
import Derived.Test.YtbmjiedpaffifaaGreatDb21
import Derived.Test.YtbmjiedpaffifaaGreatDb20
import Derived.Test.YtbmjiedpaffifaaGreatDb27
import Derived.OrdersHeld
import Derived.Test.YtbmjiedpaffifaaGreatDb39
namespace Go.Proofs.YtbmjiedpaffifaaGreat.U
open Go.RowKit
variable {w w' w2 : World} {g ev rv lv n0 : Nat} {ro so lo : Option Addr} {rn rc sn sc ln lc : Nat} {gave : Int} {over : Bool} {Z Z' : List Int}

/-- the most that a frame may have -/
abbrev mx : Int := 9223372036854775807
/-- the frames that stand one behind the other, up to the first that is none; the error by which that one gives up -/
def spl : Nat → List Int → List (List Int) × Int
  | 0, _ => ([], 0)
  | f + 1, Z => if Z.length = 0 then ([], 0) else if pcE Z mx ≠ 0 then ([], pcE Z mx) else ((Z.drop (nmK Z)).take (nmV Z) :: (spl f (Z.drop (nmK Z + nmV Z))).1, (spl f (Z.drop (nmK Z + nmV Z))).2)
theorem nmK_pos {Z : List Int} (h : pcE Z mx = 0) : 0 < nmK Z := (nm_ok (pcE_ok h).1).2.2.2
theorem spl_fuel : ∀ (f f' : Nat) (Z : List Int), Z.length < f → Z.length < f' → spl f Z = spl f' Z
  | 0, _, _, h, _ => absurd h (Nat.not_lt_zero _)
  | _, 0, _, _, h => absurd h (Nat.not_lt_zero _)
  | f + 1, f' + 1, Z, h, h' => by
    unfold spl
    split
    · rfl
    · split
      · rfl
      · rename_i hz hp
        have hk := nmK_pos (by simpa using hp)
        rw [spl_fuel f f' (Z.drop (nmK Z + nmV Z)) (by rw [List.length_drop]; omega) (by rw [List.length_drop]; omega)]
def splA (Z : List Int) : List (List Int) × Int := spl (Z.length + 1) Z
theorem splA_nil {Z : List Int} (h : Z.length = 0) : splA Z = ([], 0) := by unfold splA spl; rw [if_pos h]
theorem splA_bad {Z : List Int} (h : Z.length ≠ 0) (hp : pcE Z mx ≠ 0) : splA Z = ([], pcE Z mx) := by unfold splA spl; rw [if_neg h, if_pos hp]
theorem splA_ok {Z : List Int} (h : Z.length ≠ 0) (hp : pcE Z mx = 0) : splA Z = ((Z.drop (nmK Z)).take (nmV Z) :: (splA (Z.drop (nmK Z + nmV Z))).1, (splA (Z.drop (nmK Z + nmV Z))).2) := by
  have hk := nmK_pos hp
  unfold splA
  rw [spl, if_neg h, if_neg (by simpa using hp), spl_fuel Z.length ((Z.drop (nmK Z + nmV Z)).length + 1) (Z.drop (nmK Z + nmV Z)) (by rw [List.length_drop]; omega) (by omega)]
/-- how much is left -/
def leftOf (w : World) (g : Nat) : Nat := match w.cell? ⟨g, 0, none⟩ with | some (.slice _ n _) => n | _ => 0
theorem left_of (R : Rdr w g ro rn rc gave over) : leftOf w g = rn := by unfold leftOf; rw [R.c0]
/-- what was there stays, but the reader and the list's variable -/
structure Kl (n0 : Nat) (w w' : World) (g lv : Nat) : Prop where
  os : w'.os = w.os
  tape : w'.tape = w.tape
  output : w'.output = w.output
  size : w.heap.size ≤ w'.heap.size
  block : ∀ k, k < n0 → k ≠ g → k ≠ lv → w'.heap[k]? = w.heap[k]?
theorem Src.keep {m c : Nat} (S : Src w so m c Z) (hk : ∀ k, blk so = some k → w'.heap[k]? = w.heap[k]?) : Src w' so m c Z :=
  ⟨S.1, S.2.1, fun ad ha t ht => by
    rw [World.cell?_of_block (hk _ (by rw [ha]; exact congrArg some (block_of_add ad t).symm))]
    exact S.2.2.1 ad ha t ht, S.2.2.2⟩
theorem RL.keep (R : RL w g ro rn rc Z) (h1 : w'.heap[g]? = w.heap[g]?) (hk : ∀ k, blk ro = some k → w'.heap[k]? = w.heap[k]?) : RL w' g ro rn rc Z := ⟨h1.trans R.r, R.s.keep hk, R.cap, R.big, R.ne⟩
/-- all but what the split says -/
structure SI (n0 : Nat) (w0 w : World) (g lv : Nat) (bz : Option Nat) (ro : Option Addr) (rn rc : Nat) (Z : List Int) (lo : Option Addr) (ln lc : Nat) (D : List (List Int)) : Prop where
  rl : RL w g ro rn rc Z
  var : Var w lv (.slice lo ln lc) 39
  gb : GB n0 w lo ln lc D
  kl : Kl n0 w0 w g lv
  src : blk ro = bz
  pos : g < n0 ∧ lv < n0 ∧ lv ≠ g ∧ n0 ≤ w.heap.size ∧ n0 ≤ w0.heap.size ∧ ∀ k, bz = some k → k < n0 ∧ k ≠ lv ∧ k ≠ g
/-- at the loop's head -/
def SL (n0 : Nat) (w0 w : World) (g lv : Nat) (bz : Option Nat) (Z0 : List Int) : Prop := ∃ ro rn rc Z lo ln lc D, SI n0 w0 w g lv bz ro rn rc Z lo ln lc D ∧ splA Z0 = (D ++ (splA Z).1, (splA Z).2) ∧ ln + rn ≤ Z0.length
/-- a frame was read -/
structure SJ (n0 : Nat) (w0 w : World) (g lv : Nat) (bz : Option Nat) (ro : Option Addr) (rn rc : Nat) (Z : List Int) (lo : Option Addr) (ln lc : Nat) (D : List (List Int)) (po : Option Addr) (pn pc : Nat) (Y : List Int) : Prop where
  si : SI n0 w0 w g lv bz ro rn rc Z lo ln lc D
  b : BR w po pn pc Y
  new : ∀ k, blk po = some k → n0 ≤ k ∧ k < w.heap.size ∧ blk lo ≠ some k
variable {w0 : World} {bz : Option Nat} {D : List (List Int)} {Z0 : List Int}
theorem Kl.kg (h : Kl n0 w0 w g lv) (hs : n0 ≤ w.heap.size) (k : Kg w w2 g) : Kl n0 w0 w2 g lv := ⟨k.os.trans h.os, k.tape.trans h.tape, k.output.trans h.output, Nat.le_trans h.size k.size, fun i hi h1 h2 => (k.block i (by omega) h1).trans (h.block i hi h1 h2)⟩
theorem SI.drew (h : SI n0 w0 w g lv bz ro rn rc Z lo ln lc D) : SI n0 w0 w.drew g lv bz ro rn rc Z lo ln lc D :=
  ⟨h.rl.kg_below (below_drew1 w), h.var, h.gb.below (below_drew1 w), ⟨h.kl.os, h.kl.tape, h.kl.output, h.kl.size, h.kl.block⟩, h.src, h.pos⟩
theorem SI.frame {so : Option Addr} {sn sc : Nat} {Z2 Y : List Int} {po : Option Addr} {pn pc : Nat} (h : SI n0 w0 w g lv bz ro rn rc Z lo ln lc D) (B : BR w2 po pn pc Y) (hpo : ∀ k, blk po = some k → w.heap.size ≤ k) (R2 : RL w2 g so sn sc Z2) (hb : blk so = blk ro) (K : Kg w w2 g) :
    SJ n0 w0 w2 g lv bz so sn sc Z2 lo ln lc D po pn pc Y := by
  obtain ⟨p1, p2, p3, p4, p5, p6⟩ := h.pos
  refine ⟨⟨R2, (K.block lv (by omega) p3).trans h.var, h.gb.keep2 p1 K.size (fun k hk hn => K.block k hk hn), h.kl.kg p4 K, hb.trans h.src, p1, p2, p3, Nat.le_trans p4 K.size, p5, p6⟩, B, fun k e => ⟨by have := hpo k e; omega, B.lt k e, fun x => ?_⟩⟩
  have := h.gb.lt k x
  have := hpo k e
  omega
theorem SJ.app {po : Option Addr} {pn pc : Nat} {Y : List Int} (h : SJ n0 w0 w g lv bz ro rn rc Z lo ln lc D po pn pc Y) {V : List Value} (hV : RW w 28 lo ln lc V ∧ ∀ i, i < ln → ∃ bo n c, V[i]? = some (.slice bo n c) ∧ BS w bo n c (D.getD i []) ∧ ∀ k, blk bo = some k → n0 ≤ k ∧ k < w.heap.size ∧ blk lo ≠ some k) {lo2 : Option Addr} {lc2 : Nat} (R : RW w2 28 lo2 (ln + 1) lc2 (V ++ [.slice po pn pc])) (A : Ap w w2 lo lo2) :
    Var w2 lv (.slice lo ln lc) 39 ∧ SI n0 w0 (w2.setCell ⟨lv, 0, none⟩ (.slice lo2 (ln + 1) lc2)) g lv bz ro rn rc Z lo2 (ln + 1) lc2 (D ++ [Y]) := by
  obtain ⟨p1, p2, p3, p4, p5, p6⟩ := h.si.pos
  have hlo : ∀ k, k < n0 → some k ≠ blk lo := fun k hk e => by have := h.si.gb.ge k e.symm; omega
  have hk : ∀ k, k < n0 → w2.heap[k]? = w.heap[k]? := fun k hk => A.grown.block k (by omega) (hlo k hk)
  have V2 : Var w2 lv (.slice lo ln lc) 39 := (hk lv p2).trans h.si.var
  have G2 := h.si.gb.add h.b.bs h.new p4 hV R A
  have hs := A.grown.size
  refine ⟨V2, ⟨?_, set_heap w2 lv _ _ _ 0 _ V2, G2.keep2 p2 (by rw [set_size]; exact Nat.le_refl _) (fun k _ hn => set_other w2 lv 0 k _ hn), ⟨(setCell_os _ _ _).trans (A.grown.os.trans h.si.kl.os), (setCell_tape _ _ _).trans (A.grown.tape.trans h.si.kl.tape), (setCell_output _ _ _).trans (A.grown.output.trans h.si.kl.output), by rw [set_size]; exact Nat.le_trans h.si.kl.size hs, fun k hk0 h1 h2 => (set_other w2 lv 0 k _ h2).trans ((hk k hk0).trans (h.si.kl.block k hk0 h1 h2))⟩, h.si.src, p1, p2, p3, by rw [set_size]; omega, p5, p6⟩⟩
  exact h.si.rl.keep ((set_other w2 lv 0 g _ (Ne.symm p3)).trans (hk g p1)) (fun k e => by
    rw [h.si.src] at e
    exact (set_other w2 lv 0 k _ (p6 k e).2.1).trans (hk k (p6 k e).1))
/-- what it leaves -/
def SpP (n0 : Nat) (w0 : World) (g lv : Nat) (Z0 : List Int) (r : Ending) (w' : World) : Prop :=
  Kl n0 w0 w' g lv ∧ ((r = .returned (.tuple #[]) ∧ (splA Z0).2 = 0 ∧ (∃ so sc, Rdr w' g so 0 sc 0 false) ∧ ∃ lo ln lc, Var w' lv (.slice lo ln lc) 39 ∧ GB n0 w' lo ln lc (splA Z0).1) ∨ (r = .panicked (ups g) ∧ (splA Z0).2 ≠ 0 ∧ Rdr w' g none 0 0 (splA Z0).2 false))
end Go.Proofs.YtbmjiedpaffifaaGreat.U
namespace Go.Proofs.YtbmjiedpaffifaaGreat.U
open Go.RowKit
variable {w w' w2 : World} {g ev rv lv n0 : Nat} {ro so lo : Option Addr} {rn rc sn sc ln lc : Nat} {gave : Int} {over : Bool} {Z Z' : List Int}

theorem GB.mono {m0 : Nat} {L : List (List Int)} (h : GB n0 w lo ln lc L) (hm : m0 ≤ n0) : GB m0 w lo ln lc L := by
  obtain ⟨V, r, hr⟩ := h.row
  refine ⟨h.len, fun k e => Nat.le_trans hm (h.ge k e), V, r, fun i hi => ?_⟩
  obtain ⟨bo, n, c, hv, B, hb⟩ := hr i hi
  exact ⟨bo, n, c, hv, B, fun k e => ⟨Nat.le_trans hm (hb k e).1, (hb k e).2⟩⟩
/-- what Split answers -/
def SpA (w w' : World) (Z : List Int) (r : Ending) : Prop := ∃ lo ln lc, r = .returned (.tuple #[.slice lo ln lc, .int .i64 (splA Z).2]) ∧ Below w.heap.size w w' ∧ ((splA Z).2 = 0 → GB w.heap.size w' lo ln lc (splA Z).1) ∧ ((splA Z).2 ≠ 0 → lo = none ∧ ln = 0 ∧ lc = 0)
end Go.Proofs.YtbmjiedpaffifaaGreat.U
namespace Go.Proofs.YtbmjiedpaffifaaGreat.U
open Go.RowKit
variable {w w' w2 : World} {g : Nat} {ao : Option Addr} {n c : Nat} {Z : List Int}

theorem rdN_len {Z : List Int} {a : Nat} {v k : Int} (h : rdN Z a = (v, k, 0)) : 0 < k ∧ (a : Int) + k ≤ Z.length := by
  have := scan_size Z a 9 0 (by unfold rdN at h; rw [h])
  unfold rdN at h
  rw [h] at this
  exact this
/-- upTo's answer -/
def upA (Z : List Int) (a : Nat) (most : Int) : Int × Int × Int := if nmE (Z.drop a) most = 0 then ((nmV (Z.drop a) : Int), ((a + nmK (Z.drop a) : Nat) : Int), 0) else (0, 0, nmE (Z.drop a) most)
set_option maxRecDepth 100000 in
theorem upTo_any (ao : Option Addr) (n c : Nat) (Z : List Int) (a : Nat) (most : Int) (w : World) (S : Src w ao n c Z) (ha : a ≤ n) (hn : n ≤ 140737488355328) :
    Calls Tryz.prog 54 #[.slice ao n c, .int .i64 a, .int .i64 most] w fun e w' => e = p3 (upA Z a most) ∧ w' = w := by
  have HC := hide (refRead_any ao n c Z a w S ha (by omega))
  obtain ⟨v, k, x, hr⟩ : ∃ v k x, rdN Z a = (v, k, x) := ⟨_, _, _, rfl⟩
  have hr' : rdN (Z.drop a) 0 = (v, k, x) := by rw [rdN_drop, hr]
  unfold rdA at HC
  rw [hr] at HC
  simp only at HC
  by_cases hx : x = 0
  · subst hx
    rw [if_pos rfl] at HC
    have hk := rdN_len hr
    by_cases hm : most < v
    · have HF : Hid (upA Z a most = (0, 0, 51)) := by
        have e : nmE (Z.drop a) most = 51 := by unfold nmE; rw [hr']; simp only; rw [if_neg (by simp), if_pos hm]
        show _ = _
        unfold upA
        rw [e]; rfl
      clear hr hr' hk S
      go_enter Tryz.func54, Tryz.ntmps54
      go_wp2_with fail
      refine HC.out.mono ?_
      rintro e w2 ⟨rfl, rfl⟩
      unfold p3
      go_wp2_with fail
      go_ret3
      exact ⟨by rw [HF.out]; rfl, rfl⟩
    · have e0 : nmE (Z.drop a) most = 0 := by unfold nmE; rw [hr']; simp only; rw [if_neg (by simp), if_neg hm]
      obtain ⟨h1, -⟩ := nm_ok e0
      rw [hr'] at h1
      simp only [Prod.mk.injEq, and_true] at h1
      have HF : Hid (upA Z a most = (v, (a : Int) + k, 0)) := by
        show _ = _
        unfold upA
        rw [if_pos e0, h1.1, h1.2]
        simp
      have hm' : v ≤ most := by omega
      clear hr hr' hk S h1 e0
      go_enter Tryz.func54, Tryz.ntmps54
      go_wp2_with fail
      refine HC.out.mono ?_
      rintro e w2 ⟨rfl, rfl⟩
      unfold p3
      go_wp2_with fail
      go_ret3
      exact ⟨by rw [HF.out]; rfl, rfl⟩
  · rw [if_neg hx] at HC
    have HF : Hid (upA Z a most = (0, 0, x)) := by
      have e : nmE (Z.drop a) most = x := by unfold nmE; rw [hr']; simp only; rw [if_pos hx]
      show _ = _
      unfold upA
      rw [e, if_neg hx]
    have h0 : (x != 0) = true := by simpa using hx
    clear hr hr' S
    go_enter Tryz.func54, Tryz.ntmps54
    go_wp2_with fail
    refine HC.out.mono ?_
    rintro e w2 ⟨rfl, rfl⟩
    unfold p3
    go_wp2_with fail
    go_ret3
    exact ⟨by rw [HF.out]; rfl, rfl⟩
theorem ar1 {n nx v : Nat} (h : ¬ n < nx + v) : (v : Int) ≤ (n : Int) - nx := by omega
theorem ar2 {n nx v c : Nat} (h : ¬ n < nx + v) (hc : n ≤ c) : ((nx + v : Nat) : Int) ≤ (c : Int) := by omega
theorem ar3 {nx v : Nat} : (nx : Int) ≤ ((nx + v : Nat) : Int) := by omega
theorem ar4 {n nx v : Nat} (h : n < nx + v) : (n : Int) - nx < (v : Int) := by omega
theorem ar5 {n nx : Nat} (h : nx ≤ n) (hn : n ≤ 140737488355328) : wrap64 ((n : Int) - nx) = (n : Int) - nx := w64 (by omega) (by omega)
theorem ar6 {n nx v : Nat} (h : ¬ n < nx + v) (hn : n ≤ 140737488355328) : wrap64 ((nx : Int) + v) = ((nx + v : Nat) : Int) := by rw [w64 (by omega) (by omega)]; rfl
theorem ar7 {n a k nx v : Nat} (h : a + k = nx) (hb : n < nx + v) (hn : nx ≤ n) : n - a < k + v := by omega
theorem ar8 {n a k nx v : Nat} (h : a + k = nx) (hb : ¬ n < nx + v) : ¬ n - a < k + v := by omega
theorem ar9 {n nx v c : Nat} (h : ¬ n < nx + v) (hc : c = nx) (hn : n ≤ c) : v = 0 := by omega
theorem ar10 {n nx v : Nat} (h : ¬ n < nx + v) : v ≤ n - nx := by omega
/-- piece's answer -/
def pcY (Z : List Int) (most : Int) : List Int := if pcE Z most = 0 then (Z.drop (nmK Z)).take (nmV Z) else []
def pcN (Z : List Int) (a : Nat) (most : Int) : Int := if pcE (Z.drop a) most = 0 then ((a + (nmK (Z.drop a) + nmV (Z.drop a)) : Nat) : Int) else 0
set_option maxRecDepth 100000 in
theorem refPiece_any (ao : Option Addr) (n c : Nat) (Z : List Int) (a : Nat) (most : Int) (w : World) (S : Src w ao n c Z) (hcap : n ≤ c) (ha : a ≤ n) (hn : n ≤ 140737488355328) :
    Calls Tryz.prog 30 #[.slice ao n c, .int .i64 a, .int .i64 most] w fun e w' => e = .returned (.tuple #[.string (strOfNums (pcY (Z.drop a) most)), .int .i64 (pcN Z a most), .int .i64 (pcE (Z.drop a) most)]) ∧ w' = w := by
  have HC := hide (upTo_any ao n c Z a most w S ha hn)
  have hl := S.1
  by_cases h0 : nmE (Z.drop a) most = 0
  · obtain ⟨h1, h2, h3, h4⟩ := nm_ok h0
    rw [List.length_drop] at h3
    have hnk : a + nmK (Z.drop a) ≤ n := by rw [← hl]; clear h1 h2 h0 HC; omega
    obtain ⟨v, hv⟩ : ∃ v, nmV (Z.drop a) = v := ⟨_, rfl⟩
    obtain ⟨nx, hnx⟩ : ∃ nx, a + nmK (Z.drop a) = nx := ⟨_, rfl⟩
    rw [hnx] at hnk
    have HU : Hid (upA Z a most = ((v : Int), (nx : Int), 0)) := by show _ = _; unfold upA; rw [if_pos h0, hv, hnx]
    rw [HU.out] at HC
    by_cases hb : n < nx + v
    · have HP : Hid (pcE (Z.drop a) most = 50) := by show _ = _; unfold pcE; rw [if_neg (by simpa using h0), if_pos (by rw [List.length_drop, hv, hl]; exact ar7 hnx hb hnk)]
      have HY : Hid (pcY (Z.drop a) most = []) := by show _ = _; unfold pcY; rw [HP.out]; rfl
      have HN : Hid (pcN Z a most = 0) := by show _ = _; unfold pcN; rw [HP.out]; rfl
      have hw1 := ar5 hnk hn
      have hg := ar4 hb
      rw [HP.out, HY.out, HN.out]
      clear S h0 h1 h2 h3 h4 hb hv hnx HU hnk
      go_enter Tryz.func30, Tryz.ntmps30
      go_wp2_with fail
      refine HC.out.mono ?_
      rintro e w2 ⟨rfl, rfl⟩
      unfold p3
      go_wp2_with fail
      go_ret3
      exact ⟨rfl, rfl⟩
    · have HP : Hid (pcE (Z.drop a) most = 0) := by show _ = _; unfold pcE; rw [if_neg (by simpa using h0), if_neg (by rw [List.length_drop, hv, hl]; exact ar8 hnx hb)]
      have HY : Hid (pcY (Z.drop a) most = (Z.drop nx).take v) := by show _ = _; unfold pcY; rw [if_pos HP.out, List.drop_drop, hnx, hv]
      have HN : Hid (pcN Z a most = ((nx + v : Nat) : Int)) := by show _ = _; unfold pcN; rw [if_pos HP.out, ← Nat.add_assoc, hnx, hv]
      have hw1 := ar5 hnk hn
      have hw2 := ar6 hb hn
      have hg := ar1 hb
      have hg1 : (nx : Int) ≤ ((nx + v : Nat) : Int) := ar3
      have hg2 := ar2 hb hcap
      rw [HP.out, HY.out, HN.out]
      obtain ⟨ao', c', hcs, S', hc'⟩ := S.sub nx hnk hcap
      cases ao with
      | none =>
        have e := (S.2.1 rfl).1
        have : 0 < nx := by rw [← hnx]; clear h1 h2 hg; omega
        clear h1 h2 hg hw1 hw2
        omega
      | some ad =>
        have hz : Z.length = n := hl
        by_cases hc : c = nx
        · obtain ⟨rfl, rfl⟩ : ao' = some ad ∧ c' = 0 := by
            rcases hcs with ⟨x, _⟩ | ⟨ad, x, _, y, z⟩ | ⟨ad, x, y, _⟩
            · cases x
            · exact ⟨y.trans x.symm, z⟩
            · exact absurd hc y
          have e2 : v = 0 := ar9 hb hc hcap
          subst e2
          have hcv : (convert 28 9 (.slice (some ad) 0 0)).run Tryz.prog w = .ok (.string (strOfNums [])) w := BS.str ⟨rfl, fun h => (by cases h), fun _ _ t ht => absurd ht (Nat.not_lt_zero t)⟩
          subst hc
          clear S h0 h1 h2 h3 h4 hb hv hnx HU hcs S' hc' hnk hcap
          go_enter Tryz.func30, Tryz.ntmps30
          go_wp2_with fail
          refine HC.out.mono ?_
          rintro e w2 ⟨rfl, rfl⟩
          unfold p3
          go_wp2_with fail
          go_ret3
          exact ⟨rfl, rfl⟩
        · obtain ⟨rfl, rfl⟩ : ao' = some (ad.add nx) ∧ c' = c - nx := by
            rcases hcs with ⟨x, _⟩ | ⟨ad, x, y, _⟩ | ⟨ad', x, _, y, z⟩
            · cases x
            · exact absurd y hc
            · obtain rfl := Option.some.inj x
              exact ⟨y, z⟩
          have hcv := (S'.take v (ar10 hb)).bs.str
          have hsub : nx + v - nx = v := Nat.add_sub_cancel_left nx v
          clear S h0 h1 h2 h3 h4 hb hv hnx HU hcs S' hc' hnk hcap
          go_enter Tryz.func30, Tryz.ntmps30
          go_wp2_with fail
          refine HC.out.mono ?_
          rintro e w2 ⟨rfl, rfl⟩
          unfold p3
          go_wp2_with fail
          go_ret3
          exact ⟨rfl, rfl⟩
  · have HU : Hid (upA Z a most = (0, 0, nmE (Z.drop a) most)) := by show _ = _; unfold upA; rw [if_neg h0]
    rw [HU.out] at HC
    have HP : Hid (pcE (Z.drop a) most = nmE (Z.drop a) most) := by show _ = _; unfold pcE; rw [if_pos (by simpa using h0)]
    have HY : Hid (pcY (Z.drop a) most = []) := by show _ = _; unfold pcY; rw [HP.out, if_neg h0]
    have HN : Hid (pcN Z a most = 0) := by show _ = _; unfold pcN; rw [HP.out, if_neg h0]
    rw [HP.out, HY.out, HN.out]
    have h1 : (nmE (Z.drop a) most != 0) = true := by simpa using h0
    generalize nmE (Z.drop a) most = x at *
    clear S h0 HU HP HY HN
    go_enter Tryz.func30, Tryz.ntmps30
    go_wp2_with fail
    refine HC.out.mono ?_
    rintro e w2 ⟨rfl, rfl⟩
    unfold p3
    go_wp2_with fail
    go_ret3
    exact ⟨rfl, rfl⟩
end Go.Proofs.YtbmjiedpaffifaaGreat.U
namespace Go.Proofs.YtbmjiedpaffifaaGreat.U
open Go.RowKit
variable {w w' w2 : World} {g n0 : Nat} {ao lo : Option Addr} {n c ln lc : Nat} {Z : List Int}

theorem oct_drop {Z : List Int} (h : ∀ t, 0 ≤ Z.getD t 0 ∧ Z.getD t 0 ≤ 255) (a : Nat) (t : Nat) : 0 ≤ (Z.drop a).getD t 0 ∧ (Z.drop a).getD t 0 ≤ 255 := by rw [drop_getD]; exact h _
theorem oct_take {Z : List Int} (h : ∀ t, 0 ≤ Z.getD t 0 ∧ Z.getD t 0 ≤ 255) (v : Nat) (t : Nat) : 0 ≤ (Z.take v).getD t 0 ∧ (Z.take v).getD t 0 ≤ 255 := by
  by_cases ht : t < v
  · have := h t
    simp only [List.getD, List.getElem?_take, if_pos ht] at this ⊢
    exact this
  · simp [List.getD, List.getElem?_take, ht]
/-- at the loop's head -/
def RSL (n0 : Nat) (w wr : World) (Z : List Int) (a : Nat) (lo : Option Addr) (ln lc : Nat) : Prop := ∃ D, GB n0 wr lo ln lc D ∧ Below n0 w wr ∧ splA Z = (D ++ (splA (Z.drop a)).1, (splA (Z.drop a)).2) ∧ ln ≤ a ∧ n0 ≤ wr.heap.size
theorem RSL.step {a : Nat} {Y : List Int} {bo : Option Addr} {bn bc : Nat} {D : List (List Int)} {b : Nat} {w3 w4 : World} (G : GB n0 w lo ln lc D) (hb : Below n0 w' w) (hs : n0 ≤ w.heap.size) (b3 : Below w.heap.size w w3) (B : BS w3 bo bn bc Y) (hbo : ∀ k, blk bo = some k → w.heap.size ≤ k ∧ k < w3.heap.size)
    {V : List Value} (hV : RW w3 28 lo ln lc V ∧ ∀ i, i < ln → ∃ bo n c, V[i]? = some (.slice bo n c) ∧ BS w3 bo n c (D.getD i []) ∧ ∀ k, blk bo = some k → n0 ≤ k ∧ k < w3.heap.size ∧ blk lo ≠ some k) {lo2 : Option Addr} {lc2 : Nat} (R : RW w4 28 lo2 (ln + 1) lc2 (V ++ [.slice bo bn bc])) (A : Ap w3 w4 lo lo2)
    (he : splA Z = (D ++ (splA (Z.drop a)).1, (splA (Z.drop a)).2)) (he2 : splA (Z.drop a) = (Y :: (splA (Z.drop b)).1, (splA (Z.drop b)).2)) (hl : ln ≤ a) (hab : a < b) : RSL n0 w' w4 Z b lo2 (ln + 1) lc2 := by
  have hs3 := b3.size
  have hs4 := A.grown.size
  refine ⟨D ++ [Y], (G.below b3).add B (fun k e => ⟨by have := (hbo k e).1; omega, (hbo k e).2, fun x => ?_⟩) (by omega) hV R A, ?_, ?_, by omega, by omega⟩
  · have := G.lt k x
    have := (hbo k e).1
    omega
  · refine (hb.trans (b3.mono hs)).grown A.grown (by omega) (fun k e => G.ge k e)
  · rw [he, he2]
    simp
set_option maxRecDepth 100000 in
set_option maxHeartbeats 1000000 in
theorem refSplit_any (ao : Option Addr) (n c : Nat) (Z : List Int) (w : World) (S : Src w ao n c Z) (hcap : n ≤ c) (hz : n < 4000000000000) : Calls Tryz.prog 15 #[.slice ao n c] w fun r w' => SpA w w' Z r := by
  have HS := hide S
  have HN : Hid (n ≤ c ∧ n < 4000000000000) := ⟨hcap, hz⟩
  have HL : Hid (Z.length = n) := S.1
  have HI0 : Hid (RSL w.heap.size w w Z 0 none 0 0) := ⟨[], GB.nil _ _, Below.refl _ _, by rw [List.drop_zero]; rfl, Nat.le_refl _, Nat.le_refl _⟩
  clear S hcap hz
  go_enter Tryz.func15, Tryz.ntmps15
  go_wp2_with fail
  go_loopw [4, 5] (fun l i wr => ∃ (a : Nat) (lo : Option Addr) (ln lc : Nat), a ≤ n ∧ l = .slice lo ln lc ∧ i = .int .i64 a ∧ Hid (RSL w.heap.size w wr Z a lo ln lc)) (fun _ i _ => n - (intOf i).toNat)
  case atStart => exact ⟨0, none, 0, 0, Nat.zero_le _, rfl, rfl, HI0⟩
  case round =>
    clear HI0
    obtain ⟨a, lo, ln, lc, ha, rfl, rfl, HI⟩ := hrel
    obtain ⟨D, G, hb, he, hl, hs⟩ := HI.out
    by_cases hlt : a < n
    · have HLT := hide hlt
      have HC := hide (refPiece_any ao n c Z a 9223372036854775807 wr (HS.out.below hb) HN.out.1 ha (by have := HN.out; omega))
      by_cases hp : pcE (Z.drop a) mx = 0
      · have hkp := nmK_pos hp
        have hkl := (pcE_ok hp).2
        rw [List.length_drop, HL.out] at hkl
        obtain ⟨Y, hY⟩ : ∃ Y, ((Z.drop a).drop (nmK (Z.drop a))).take (nmV (Z.drop a)) = Y := ⟨_, rfl⟩
        obtain ⟨b, hbb⟩ : ∃ b, a + (nmK (Z.drop a) + nmV (Z.drop a)) = b := ⟨_, rfl⟩
        have e1 : pcY (Z.drop a) mx = Y := by unfold pcY; rw [if_pos hp, hY]
        have e2 : pcN Z a mx = (b : Int) := by unfold pcN; rw [if_pos hp, hbb]
        have e3 : splA (Z.drop a) = (Y :: (splA (Z.drop b)).1, (splA (Z.drop b)).2) := by
          rw [splA_ok (by rw [List.length_drop, HL.out]; omega) hp, hY, List.drop_drop, hbb]
        have hO : strB (strOfNums Y) = Y := strB_nums Y (by rw [← hY]; exact oct_take (oct_drop (oct_drop HS.out.2.2.2 _) _) _)
        have HB : Hid (a < b ∧ b ≤ n) := ⟨by omega, by omega⟩
        rw [show (9223372036854775807 : Int) = mx from rfl, hp, e1, e2] at HC
        obtain ⟨w3, c3, hcv, B3, b3, z3⟩ := conv_bs wr (strOfNums Y)
        rw [hO] at B3
        have G3 := G.below b3
        obtain ⟨V, hV⟩ := G3.row
        have HStep : Hid (∀ lo2 lc2 w4, RW w4 28 lo2 (ln + 1) lc2 (V ++ [.slice (some ⟨wr.heap.size, 0, none⟩) (strOfNums Y).size c3]) → Ap w3 w4 lo lo2 → RSL w.heap.size w w4 Z b lo2 (ln + 1) lc2) :=
          fun lo2 lc2 w4 R A => RSL.step G hb hs b3 B3 (fun k e => by have : wr.heap.size = k := Option.some.inj e; omega) hV R A he e3 hl HB.out.1
        have HRW := hide hV.1
        have HBD : Hid (ln + 1 ≤ 5000000000000) := by show _ ≤ _; have := HN.out.2; omega
        clear G hb he hl hs hp hkp hkl hY hbb e1 e2 e3 hO B3 b3 z3 G3 hV HI
        go_wp2_with fail
        refine HC.out.mono ?_
        rintro e w2 ⟨rfl, rfl⟩
        go_wp2_with (at_builtin; refine HRW.out.app rfl HBD.out rfl (.tmp 23) (.tmp 26) rfl rfl rfl ?_; intro b5 c5 w5 R5 A5; have HE := hide (HStep.out _ _ _ R5 A5); clear R5 A5)
        go_roundw
        case rel => exact ⟨b, b5, ln + 1, c5, HB.out.2, rfl, rfl, HE⟩
        case measure => have := HB.out; simp [intOf]; omega
      · have HE : Hid (SpA w wr Z (.returned (.tuple #[.slice none 0 0, .int .i64 (pcE (Z.drop a) mx)]))) := by
          have e : (splA Z).2 = pcE (Z.drop a) mx := by rw [he, splA_bad (by rw [List.length_drop, HL.out]; omega) hp]
          exact ⟨none, 0, 0, by rw [e], hb, by rw [e]; exact fun h => absurd h hp, fun _ => ⟨rfl, rfl, rfl⟩⟩
        have h1 : (pcE (Z.drop a) mx != 0) = true := by simpa using hp
        rw [show (9223372036854775807 : Int) = mx from rfl] at HC
        generalize pcE (Z.drop a) mx = x at HC HE h1
        clear G hb he hl hs hp HI
        go_wp2_with fail
        refine HC.out.mono ?_
        rintro e w2 ⟨rfl, rfl⟩
        go_wp2_with fail
        go_ret2
        exact HE.out
    · obtain ⟨rfl, -⟩ : a = n ∧ True := ⟨by omega, trivial⟩
      have HE : Hid (SpA w wr Z (.returned (.tuple #[.slice lo ln lc, .int .i64 0]))) := by
        have e : splA Z = (D, 0) := by rw [he, splA_nil (by rw [List.length_drop, HL.out]; omega), List.append_nil]
        exact ⟨lo, ln, lc, by rw [e], hb, fun _ => by rw [e]; exact G, fun h => absurd (by rw [e]) h⟩
      clear G hb he hl hs HI
      go_wp2_with fail
      go_ret2
      exact HE.out
end Go.Proofs.YtbmjiedpaffifaaGreat.U
namespace Go.Proofs.YtbmjiedpaffifaaGreat.U
open Go.RowKit

theorem joinB_cons (Y : List Int) (L : List (List Int)) : joinB (Y :: L) = frm Y ++ joinB L := rfl
theorem splA_frm (Y R : List Int) (hY : Y.length ≤ 9223372036854775807) : splA (frm Y ++ R) = (Y :: (splA R).1, (splA R).2) := by
  have e : frm Y ++ R = numB Y.length ++ (Y ++ R) := by unfold frm; rw [List.append_assoc]
  have hp := frm_pos Y
  have h0 : (frm Y ++ R).length ≠ 0 := by rw [List.length_append]; omega
  have hE : pcE (frm Y ++ R) mx = 0 := by
    rw [e]
    unfold pcE
    rw [nmE_numB _ _ _ hY, if_neg (show ¬ mx < ((Y.length : Nat) : Int) by unfold mx; omega), if_neg (by simp), nmK_numB _ _ hY, nmV_numB _ _ hY, if_neg (by simp only [List.length_append]; omega)]
  rw [splA_ok h0 hE]
  have h1 : nmK (frm Y ++ R) = (numB Y.length).length := by rw [e]; exact nmK_numB _ _ hY
  have h2 : nmV (frm Y ++ R) = Y.length := by rw [e]; exact nmV_numB _ _ hY
  rw [h1, h2]
  have h3 : ((frm Y ++ R).drop (numB Y.length).length).take Y.length = Y := by rw [e, List.drop_left, List.take_left]
  have h4 : (frm Y ++ R).drop ((numB Y.length).length + Y.length) = R := by
    have : (numB Y.length).length + Y.length = (frm Y).length := by unfold frm; rw [List.length_append]
    rw [this, List.drop_left]
  rw [h3, h4]
/-- Split of Join is the list -/
theorem splA_join : ∀ (L : List (List Int)), (∀ Y ∈ L, Y.length ≤ 9223372036854775807) → splA (joinB L) = (L, 0)
  | [], _ => splA_nil rfl
  | Y :: L, h => by
    rw [joinB_cons, splA_frm Y _ (h Y (List.mem_cons_self ..)), splA_join L (fun X hX => h X (List.mem_cons_of_mem _ hX))]
/-- a strict beginning of a frame is too short -/
theorem splA_cut (Y : List Int) (hY : Y.length ≤ 9223372036854775807) (n : Nat) (h0 : 0 < n) (hn : n < (frm Y).length) : splA ((frm Y).take n) = ([], 50) := by
  have hl : ((frm Y).take n).length = n := by rw [List.length_take]; omega
  have hE : pcE ((frm Y).take n) mx = 50 := by
    unfold frm at hn ⊢
    by_cases hk : n < (numB Y.length).length
    · have e : (numB Y.length ++ Y).take n = (numB Y.length).take n := by rw [List.take_append_of_le_length (by omega)]
      rw [e]
      have hr := rdN_short Y.length n hk hY
      have h1 : nmE ((numB Y.length).take n) mx = 50 := by unfold nmE; rw [hr]; simp
      unfold pcE
      rw [h1]; simp
    · obtain ⟨d, rfl⟩ : ∃ d, n = (numB Y.length).length + d := ⟨n - (numB Y.length).length, by omega⟩
      have e : (numB Y.length ++ Y).take ((numB Y.length).length + d) = numB Y.length ++ Y.take d := by rw [List.take_length_add_append]
      rw [List.length_append] at hn
      rw [e]
      unfold pcE
      rw [nmE_numB _ _ _ hY, if_neg (show ¬ mx < ((Y.length : Nat) : Int) by unfold mx; omega), if_neg (by simp), nmK_numB _ _ hY, nmV_numB _ _ hY, if_pos (by simp only [List.length_append, List.length_take]; omega)]
  rw [splA_bad (by rw [hl]; omega) (by rw [hE]; decide), hE]
/-- where a frame ends -/
def ends (L : List (List Int)) (n : Nat) : Nat → Int
  | 0 => -1
  | k + 1 => if (joinB (L.take k)).length = n then (k : Int) else ends L n k
theorem ends_cons (Y : List Int) (L : List (List Int)) (n : Nat) (hn : (frm Y).length ≤ n) : ∀ k, ends (Y :: L) n (k + 1) = (if ends L (n - (frm Y).length) k < 0 then -1 else ends L (n - (frm Y).length) k + 1)
  | 0 => by
    have hp := frm_pos Y
    show (if (joinB []).length = n then ((0 : Nat) : Int) else -1) = if ((-1 : Int) < 0) then -1 else _
    rw [if_neg (by simp [joinB]; omega)]
    rfl
  | k + 1 => by
    have hp := frm_pos Y
    have ih := ends_cons Y L n hn k
    show (if (joinB ((Y :: L).take (k + 1))).length = n then ((k + 1 : Nat) : Int) else ends (Y :: L) n (k + 1)) = _
    rw [List.take_succ_cons, joinB_cons, List.length_append]
    show _ = if ends L (n - (frm Y).length) (k + 1) < 0 then -1 else ends L (n - (frm Y).length) (k + 1) + 1
    unfold ends
    by_cases h : (joinB (L.take k)).length = n - (frm Y).length
    · rw [if_pos (by omega), if_pos h, if_neg (by omega)]
      rfl
    · rw [if_neg (by omega), if_neg h, ← ih]
      rfl
theorem ends_low (Y : List Int) (L : List (List Int)) (n : Nat) (h0 : 0 < n) (hn : n < (frm Y).length) : ∀ k, ends (Y :: L) n k = -1
  | 0 => rfl
  | k + 1 => by
    unfold ends
    rw [if_neg ?_, ends_low Y L n h0 hn k]
    cases k with
    | zero => simp [joinB]; omega
    | succ k => rw [List.take_succ_cons, joinB_cons, List.length_append]; omega
theorem ends_lt (L : List (List Int)) (n : Nat) : ∀ k, ends L n k < (k : Int)
  | 0 => by show (-1 : Int) < 0; decide
  | k + 1 => by
    have ih := ends_lt L n k
    unfold ends
    split <;> omega
theorem ends_ge (L : List (List Int)) (n : Nat) : ∀ k, -1 ≤ ends L n k
  | 0 => by show (-1 : Int) ≤ -1; decide
  | k + 1 => by
    have ih := ends_ge L n k
    unfold ends
    split <;> omega
theorem ends_zero : ∀ (L : List (List Int)) (k : Nat), k ≤ L.length → ends L 0 (k + 1) = 0
  | L, 0, _ => by unfold ends; rw [if_pos (by simp [joinB])]; rfl
  | L, k + 1, hk => by
    have ih := ends_zero L k (by omega)
    unfold ends
    split
    · rename_i h
      cases L with
      | nil => simp at hk
      | cons Y L =>
        rw [List.take_succ_cons, joinB_cons, List.length_append] at h
        have := frm_pos Y
        omega
    · exact ih
/-- a beginning of a Join is taken just where a frame ends -/
theorem splA_take : ∀ (L : List (List Int)) (n : Nat), (∀ Y ∈ L, Y.length ≤ 9223372036854775807) → n ≤ (joinB L).length →
    (0 ≤ ends L n (L.length + 1) → (splA ((joinB L).take n)).2 = 0 ∧ ((splA ((joinB L).take n)).1.length : Int) = ends L n (L.length + 1)) ∧ (ends L n (L.length + 1) < 0 → (splA ((joinB L).take n)).2 = 50)
  | [], n, _, hn => by
    obtain rfl : n = 0 := by simpa [joinB] using hn
    have e : ends [] 0 (([] : List (List Int)).length + 1) = 0 := ends_zero [] 0 (Nat.le_refl _)
    rw [e, List.take_zero, splA_nil rfl]
    exact ⟨fun _ => ⟨rfl, rfl⟩, fun h => absurd h (by decide)⟩
  | Y :: L, n, hL, hn => by
    have hY := hL Y (List.mem_cons_self ..)
    rw [joinB_cons, List.length_append] at hn
    by_cases h0 : n = 0
    · subst h0
      rw [ends_zero (Y :: L) (Y :: L).length (Nat.le_refl _), List.take_zero, splA_nil rfl]
      exact ⟨fun _ => ⟨rfl, rfl⟩, fun h => absurd h (by decide)⟩
    by_cases h1 : n < (frm Y).length
    · rw [ends_low Y L n (by omega) h1, joinB_cons, List.take_append_of_le_length (by omega), splA_cut Y hY n (by omega) h1]
      exact ⟨fun h => absurd h (by decide), fun _ => rfl⟩
    · obtain ⟨i1, i2⟩ := splA_take L (n - (frm Y).length) (fun X hX => hL X (List.mem_cons_of_mem _ hX)) (by omega)
      have et : (joinB (Y :: L)).take n = frm Y ++ (joinB L).take (n - (frm Y).length) := by
        rw [joinB_cons, List.take_append, List.take_of_length_le (by omega)]
      have ee := ends_cons Y L n (by omega) (L.length + 1)
      rw [et, splA_frm Y _ hY]
      have e2 : ends (Y :: L) n ((Y :: L).length + 1) = _ := ee
      rw [e2]
      have hg := ends_ge L (n - (frm Y).length) (L.length + 1)
      by_cases hlt : ends L (n - (frm Y).length) (L.length + 1) < 0
      · rw [if_pos hlt]
        exact ⟨fun h => absurd h (by decide), fun _ => i2 hlt⟩
      · rw [if_neg hlt]
        obtain ⟨j1, j2⟩ := i1 (by omega)
        refine ⟨fun _ => ⟨j1, ?_⟩, fun h => by omega⟩
        show (((splA ((joinB L).take (n - (frm Y).length))).1.length + 1 : Nat) : Int) = _
        rw [← j2]
        rfl
/-- what Split takes is the Join of its frames -/
theorem join_spl : ∀ (f : Nat) (Z : List Int), Z.length < f → (∀ t, 0 ≤ Z.getD t 0 ∧ Z.getD t 0 ≤ 255) → (spl f Z).2 = 0 → joinB (spl f Z).1 = Z
  | 0, Z, h, _, _ => absurd h (Nat.not_lt_zero _)
  | f + 1, Z, hf, hZ, h => by
    unfold spl at h ⊢
    split at h
    · rename_i h0
      rw [if_pos h0]
      exact (List.eq_nil_of_length_eq_zero h0).symm
    · rename_i h0
      rw [if_neg h0]
      split at h
      · rename_i hp
        exact absurd h hp
      · rename_i hp
        rw [if_neg hp]
        have hp0 : pcE Z mx = 0 := by simpa using hp
        have hk := nmK_pos hp0
        obtain ⟨hn, hl⟩ := pcE_ok hp0
        obtain ⟨hr, -, hkl, -⟩ := nm_ok hn
        obtain ⟨v, e1, e2, e3⟩ := rdN_back Z hZ hr
        have ev : nmV Z = v := by omega
        have ek : nmK Z = (numB v).length := by omega
        have hd : ∀ t, 0 ≤ (Z.drop (nmK Z + nmV Z)).getD t 0 ∧ (Z.drop (nmK Z + nmV Z)).getD t 0 ≤ 255 := fun t => by rw [drop_getD]; exact hZ _
        have ih := join_spl f (Z.drop (nmK Z + nmV Z)) (by rw [List.length_drop]; omega) hd h
        rw [joinB_cons, ih]
        have hyl : ((Z.drop (nmK Z)).take (nmV Z)).length = v := by rw [List.length_take, List.length_drop]; omega
        unfold frm
        rw [hyl, ek, ev, List.append_assoc, ← List.drop_drop, List.take_append_drop]
        exact e3.symm
theorem join_splA (Z : List Int) (hZ : ∀ t, 0 ≤ Z.getD t 0 ∧ Z.getD t 0 ≤ 255) (h : (splA Z).2 = 0) : joinB (splA Z).1 = Z := join_spl _ Z (by omega) hZ h
end Go.Proofs.YtbmjiedpaffifaaGreat.U
