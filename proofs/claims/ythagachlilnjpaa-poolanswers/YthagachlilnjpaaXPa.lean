/- PoolAnswers: two pools with their books, side by side. -/
import Derived.Test.YthagachlilnjpaaXPz
import Derived.Test.YthagachlilnjpaaXFi
namespace Go.Proofs.Ythagachlilnjpaa
open Go.RowKit Go.Maps
variable {w w' w2 w0 : World} {g mb r made K c g' mb' r' made' K' c' : Nat} {M M' : Int → Option Ltr} {C C' : Int → List Int} {ao bo ao' : Option Addr} {Q Q' : List Mde}

/-- the blocks of a pool and its book -/
def Us (g mb r : Nat) (ao : Option Addr) (M : Int → Option Ltr) (k : Nat) : Prop := k = g ∨ k = mb ∨ k = r ∨ blk ao = some k ∨ ∃ x l, M x = some l ∧ blk l.bo = some k
theorem PX.us_lt (X : PX w g mb r made K M C ao c Q) {k : Nat} (h : Us g mb r ao M k) : k < w.heap.size := by
  rcases h with h | h | h | h | ⟨x, l, e, h⟩
  · rw [h]; exact X.P.g_lt
  · rw [h]; exact X.P.mb_lt
  · rw [h]; exact X.R.lt
  · exact X.R.row.lt k h
  · exact X.P.rlt x l e k h
theorem PX.keep (X : PX w g mb r made K M C ao c Q) (hs : w.heap.size ≤ w'.heap.size) (hk : ∀ k, Us g mb r ao M k → w'.heap[k]? = w.heap[k]?) : PX w' g mb r made K M C ao c Q := by
  refine ⟨?_, ⟨(hk r (Or.inr (Or.inr (Or.inl rfl)))).trans X.R.box, X.R.row.keep fun k e => hk k (Or.inr (Or.inr (Or.inr (Or.inl e)))), X.R.ne⟩, X.q, X.s1, X.s2, X.s3⟩
  obtain ⟨D, h, hM⟩ := X.P.map
  refine ⟨(hk g (Or.inl rfl)).trans X.P.box, ⟨D, owns_below h (hk mb (Or.inr (Or.inl rfl))), hM⟩, fun x l e => ?_, X.P.dom, X.P.ne⟩
  have Rx := X.P.row x l e
  exact ⟨Rx.bs.blkKeep fun i ei => hk i (Or.inr (Or.inr (Or.inr (Or.inr ⟨x, l, e, ei⟩)))), fun i ei => ⟨(Rx.ne i ei).1, (Rx.ne i ei).2.1, Nat.lt_of_lt_of_le (Rx.ne i ei).2.2 hs⟩, Rx.big, Rx.cap⟩
theorem Kx.us (h : Kx w w' g mb r ao bo) {k : Nat} (hk : k < w.heap.size) (hu : ¬ Us g mb r ao M k) : w'.heap[k]? = w.heap[k]? :=
  h.block k hk (fun e => hu (Or.inl e)) (fun e => hu (Or.inr (Or.inl e))) (fun e => hu (Or.inr (Or.inr (Or.inl e)))) (fun e => hu (Or.inr (Or.inr (Or.inr (Or.inl e.symm)))))
theorem Kx.bel (h : Kx w w' g mb r ao bo) (b : Below w0.heap.size w0 w) (hu : ∀ k, Us g mb r ao M k → w0.heap.size ≤ k) : Below w0.heap.size w0 w' :=
  ⟨h.os.trans b.os, h.tape.trans b.tape, h.output.trans b.output, Nat.le_trans b.size h.size, fun k hk => (h.us (M := M) (Nat.lt_of_lt_of_le hk b.size) (fun u => by have := hu k u; omega)).trans (b.block k hk)⟩
/-- two pools with their books, apart -/
structure TX (w0 w : World) (g mb r made K : Nat) (M : Int → Option Ltr) (C : Int → List Int) (ao : Option Addr) (c : Nat) (Q : List Mde) (g' mb' r' made' K' : Nat) (M' : Int → Option Ltr) (C' : Int → List Int) (ao' : Option Addr) (c' : Nat) (Q' : List Mde) : Prop where
  X : PX w g mb r made K M C ao c Q
  X' : PX w g' mb' r' made' K' M' C' ao' c' Q'
  ap : ∀ k, Us g mb r ao M k → ¬ Us g' mb' r' ao' M' k
  ge : ∀ k, Us g mb r ao M k → w0.heap.size ≤ k
  ge' : ∀ k, Us g' mb' r' ao' M' k → w0.heap.size ≤ k
  bel : Below w0.heap.size w0 w
theorem TX.swap (T : TX w0 w g mb r made K M C ao c Q g' mb' r' made' K' M' C' ao' c' Q') : TX w0 w g' mb' r' made' K' M' C' ao' c' Q' g mb r made K M C ao c Q :=
  ⟨T.X', T.X, fun k u v => T.ap k v u, T.ge', T.ge, T.bel⟩
theorem TX.below (T : TX w0 w g mb r made K M C ao c Q g' mb' r' made' K' M' C' ao' c' Q') (b : Below w.heap.size w w') : TX w0 w' g mb r made K M C ao c Q g' mb' r' made' K' M' C' ao' c' Q' :=
  ⟨T.X.below b, T.X'.below b, T.ap, T.ge, T.ge', T.bel.trans (b.mono T.bel.size)⟩
theorem TX.look (T : TX w0 w g mb r made K M C ao c Q g' mb' r' made' K' M' C' ao' c' Q') {e : Ending} (h : PlZ w w' g mb r made K M C ao c Q e) : e = .returned (.bool true) ∧ TX w0 w' g mb r made K M C ao c Q g' mb' r' made' K' M' C' ao' c' Q' :=
  ⟨h.1, h.2.1, T.X'.keep h.2.2.size fun k u => h.2.2.us (M := M) (T.X'.us_lt u) (fun v => T.ap k v u), T.ap, T.ge, T.ge', h.2.2.bel (M := M) T.bel T.ge⟩
/-- at the loop's head -/
def TW (w0 w : World) (g mb r g' mb' r' i : Nat) : Prop := ∃ made K M C ao c Q made' K' M' C' ao' c' Q', TX w0 w g mb r made K M C ao c Q g' mb' r' made' K' M' C' ao' c' Q' ∧ made ≤ i ∧ K ≤ i ∧ made' ≤ i ∧ K' ≤ i
theorem TX.play (T : TX w0 w g mb r made K M C ao c Q g' mb' r' made' K' M' C' ao' c' Q') {e : Ending} (h : PlX w w' g mb r ao made K M e) {i : Nat} (h1 : made ≤ i) (h2 : K ≤ i) (h3 : made' ≤ i) (h4 : K' ≤ i) : e = .returned (.bool true) ∧ TW w0 w' g mb r g' mb' r' (i + 1) := by
  obtain ⟨he, m2, K2, M2, C2, bo, c2, Q2, X2, k2, hm2, hK2, F2⟩ := h
  have hu : ∀ k, Us g mb r bo M2 k → Us g mb r ao M k ∨ w.heap.size ≤ k := fun k u => by
    rcases u with u | u | u | u | ⟨x, l, e, u⟩
    · exact Or.inl (Or.inl u)
    · exact Or.inl (Or.inr (Or.inl u))
    · exact Or.inl (Or.inr (Or.inr (Or.inl u)))
    · rcases k2.lies with y | ⟨j, y, hj⟩
      · exact Or.inl (Or.inr (Or.inr (Or.inr (Or.inl (y ▸ u)))))
      · rw [y] at u
        have := Option.some.inj u
        exact Or.inr (by omega)
    · rcases F2 x l e k u with ⟨y, m, hy, hk⟩ | hk
      · exact Or.inl (Or.inr (Or.inr (Or.inr (Or.inr ⟨y, m, hy, hk⟩))))
      · exact Or.inr hk
  refine ⟨he, m2, K2, M2, C2, bo, c2, Q2, made', K', M', C', ao', c', Q', ⟨X2, T.X'.keep k2.size fun k u => k2.us (M := M) (T.X'.us_lt u) (fun v => T.ap k v u), fun k u v => ?_, fun k u => ?_, T.ge', k2.bel (M := M) T.bel T.ge⟩, by omega, by omega, by omega, by omega⟩
  · rcases hu k u with x | x
    · exact T.ap k x v
    · have := T.X'.us_lt v
      omega
  · rcases hu k u with x | x
    · exact T.ge k x
    · have := T.bel.size
      omega
theorem TW.swap {i : Nat} (h : TW w0 w g mb r g' mb' r' i) : TW w0 w g' mb' r' g mb r i := by
  obtain ⟨m1, K1, M1, C1, a1, c1, Q1, m2, K2, M2, C2, a2, c2, Q2, T, h1, h2, h3, h4⟩ := h
  exact ⟨m2, K2, M2, C2, a2, c2, Q2, m1, K1, M1, C1, a1, c1, Q1, T.swap, h3, h4, h1, h2⟩
/-- a step of the script on the first of the two -/
theorem TW.step {i : Nat} (h : TW w0 w g mb r g' mb' r' i) (op : Opr) (hN : i64ok op.nn) (hX : i64ok op.xx) (hi : i < 2199023255552) (Z : List Int) (SB : BS w0 op.bo op.bn op.bc Z) (hon : op.bn ≤ 140737488355328) :
    Calls Try.prog 7 #[ptr g, ptr r, .agg (OC op)] w fun e w' => e = .returned (.bool true) ∧ TW w0 w' g mb r g' mb' r' (i + 1) := by
  obtain ⟨m1, K1, M1, C1, a1, c1, Q1, m2, K2, M2, C2, a2, c2, Q2, T, h1, h2, h3, h4⟩ := h
  refine (plays_any T.X op hN hX (by omega) (by omega) Z (SB.below T.bel) hon (fun k e hn => ?_)).mono fun e w' hp => T.play hp h1 h2 h3 h4
  have hk : k < w0.heap.size := by
    obtain ⟨ad, ha⟩ : ∃ ad, op.bo = some ad := by
      cases hb : op.bo with
      | none => rw [hb] at e; cases e
      | some ad => exact ⟨ad, rfl⟩
    have := World.block_lt_of_cell? _ _ (SB.cell ad ha 0 (by omega))
    rw [block_of_add] at this
    rw [ha] at e
    have e2 : ad.block = k := Option.some.inj e
    omega
  have hu : ¬ Us g mb r a1 M1 k := fun u => by have := T.ge k u; omega
  exact ⟨⟨fun x => hu (Or.inl x), fun x => hu (Or.inr (Or.inl x))⟩, fun x => hu (Or.inr (Or.inr (Or.inl x))), fun x => hu (Or.inr (Or.inr (Or.inr (Or.inl x))))⟩
theorem i64ok0 : i64ok 0 := by unfold i64ok; decide
/-- a look behind the script -/
theorem TX.look2 (T : TX w0 w g mb r made K M C ao c Q g' mb' r' made' K' M' C' ao' c' Q') (hma : made < 3518437208880) (hK : K < 9000000000000) (N : Int) (hN : i64ok N) :
    Calls Try.prog 7 #[ptr g, ptr r, .agg #[.int .i64 2, .bool false, .int .i64 N, .int .i64 0, .int .i64 0, .slice none 0 0]] w fun e w' => e = .returned (.bool true) ∧ TX w0 w' g mb r made K M C ao c Q g' mb' r' made' K' M' C' ao' c' Q' := by
  cases hM : M N with
  | none => exact (plays_2n T.X false N 0 0 none 0 0 hN i64ok0 hma hK [] (BS.nil_ w) (by decide) (show Hid _ from hM)).mono fun _ _ h => T.look h
  | some l => exact (plays_2s T.X false N 0 0 none 0 0 hN i64ok0 hma hK [] (BS.nil_ w) (by decide) (show Hid _ from hM)).mono fun _ _ h => T.look h
/-- two new pools and their books -/
theorem PX.new {w : World} {g mb r : Nat} (P : Pl w g mb 0 0 (fun _ => none) (fun _ => [])) (hr : w.heap[r]? = some (.cells #[.slice none 0 0] 28 (0, 0))) (h1 : r ≠ g ∧ r ≠ mb) : PX w g mb r 0 0 (fun _ => none) (fun _ => []) none 0 [] :=
  ⟨P, ⟨hr, World.ownsRow_nil _ _ _ _, (fun k e => by cases e)⟩, ⟨rfl, (fun j hj => absurd hj (Nat.not_lt_zero j)), (fun j hj => absurd hj (Nat.not_lt_zero j))⟩, h1, (fun k e => by cases e), (fun x l e => by cases e)⟩
end Go.Proofs.Ythagachlilnjpaa
