/- The law's plays: its contract. -/
import Derived.Test.YthagachlilnjpaaXPy
namespace Go.Proofs.Ythagachlilnjpaa
open Go.RowKit Go.Maps
variable {w w' w2 : World} {g mb r made K c : Nat} {M : Int → Option Ltr} {C : Int → List Int} {ao bo : Option Addr} {Q : List Mde}

theorem plays_any (X : PX w g mb r made K M C ao c Q) (op : Opr) (hN : i64ok op.nn) (hX : i64ok op.xx) (hma : made < 3518437208880) (hK : K < 9000000000000) (Z : List Int) (SB : BS w op.bo op.bn op.bc Z) (hon : op.bn ≤ 140737488355328) (hb : ∀ k, blk op.bo = some k → op.bn ≠ 0 → (k ≠ g ∧ k ≠ mb) ∧ k ≠ r ∧ blk ao ≠ some k) :
    Calls Try.prog 7 #[ptr g, ptr r, .agg (OC op)] w fun e w' => PlX w w' g mb r ao made K M e := by
  obtain ⟨kd, sec, N, Xx, Yy, ob, on, oc⟩ := op
  simp only at hN hX SB hon hb
  by_cases h1 : kd = 1
  · subst h1
    exact plays_1 X sec N Xx Yy ob on oc hN hX hma hK Z SB hon (show Hid _ from SB) (show Hid _ from fun k e h => (hb k e h).1) (show Hid _ from fun k e h => (hb k e h).2)
  by_cases h2 : kd = 2
  · subst h2
    cases hM : M N with
    | none => exact (plays_2n X sec N Xx Yy ob on oc hN hX hma hK Z SB hon (show Hid _ from hM)).mono fun _ _ h => h.x
    | some l => exact (plays_2s X sec N Xx Yy ob on oc hN hX hma hK Z SB hon (show Hid _ from hM)).mono fun _ _ h => h.x
  by_cases h3 : kd = 3
  · subst h3
    cases hM : M N with
    | none => exact plays_3n X sec N Xx Yy ob on oc hN hX hma hK Z SB hon (show Hid _ from hM)
    | some l => exact plays_3s X sec N Xx Yy ob on oc hN hX hma hK Z SB hon (show Hid _ from hM)
  by_cases h4 : kd = 4
  · subst h4
    cases hM : M N with
    | none => exact plays_4n X sec N Xx Yy ob on oc hN hX hma hK Z SB hon (show Hid _ from hM)
    | some l => exact plays_4s X sec N Xx Yy ob on oc hN hX hma hK Z SB hon (show Hid _ from hM)
  by_cases h5 : kd = 5
  · subst h5
    cases hM : M N with
    | none => exact plays_5n X sec N Xx Yy ob on oc hN hX hma hK Z SB hon (show Hid _ from hM)
    | some l => exact plays_5s X sec N Xx Yy ob on oc hN hX hma hK Z SB hon (show Hid _ from hM)
  by_cases h6 : kd = 6
  · subst h6
    cases hM : M N with
    | none => exact plays_6n X sec N Xx Yy ob on oc hN hX hma hK Z SB hon (show Hid _ from hM)
    | some l =>
      by_cases hx : Xx < 1
      · exact plays_6a X sec N Xx Yy ob on oc hN hX hma hK Z SB hon (show Hid _ from hM) hx
      · exact plays_6c X sec N Xx Yy ob on oc hN hX hma hK Z SB hon (show Hid _ from hM) (by omega)
  by_cases h7 : kd = 7
  · subst h7
    exact (plays_7 X sec N Xx Yy ob on oc hN hX hma hK Z SB hon).mono fun _ _ h => h.x
  by_cases h8 : kd = 8
  · subst h8
    exact (plays_8 X sec N Xx Yy ob on oc hN hX hma hK Z SB hon).mono fun _ _ h => h.x
  exact plays_0 X h1 h2 h3 h4 h5 h6 h7 h8 sec N Xx Yy ob on oc hN hX hma hK Z SB hon
end Go.Proofs.Ythagachlilnjpaa
