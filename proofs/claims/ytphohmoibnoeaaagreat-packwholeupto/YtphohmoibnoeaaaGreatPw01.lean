/- PackWhole: taken, whole. -/
import Derived.Test.YtphohmoibnoeaaaGreatPb40
namespace Go.Proofs.YtphohmoibnoeaaaGreat
open Go.RowKit
attribute [local go_sem ↓] ldP_eq stP_eq
attribute [local go_sem] zero_PC cells_PV PC_size
variable {w w' w2 W W' : World} {g gv gr : Nat} {Z : List Int}

/-- the bytes are a past's, entries', records' -/
def Tk (k : Int) (Z : List Int) : Prop :=
  (k = 1 ∧ ∃ P, InForm P ∧ Z = pastB P) ∨ (k = 2 ∧ ∃ L, K.okN L L.length = true ∧ Z = entsB L) ∨ (k = 3 ∧ ∃ L : List Rc, (OkR L L.length ∧ L.length ≤ 9223372036854775807) ∧ Z = recsB (plR L))
theorem rdEnts_ok {L : List K.En} (h : K.okN L L.length = true) (R : List Int) : rdEnts (entsB L ++ R) = some (L, R) := by
  have l1 := eOk_room L (fun _ => 0) 0 (Int.le_refl 0) (by decide) (ok_eok h).1 (fun k => ⟨Int.le_refl 0, by decide⟩)
  exact rdEnts_to (ok_eok h).1 (ok_eok h).2 (by omega) R
theorem Tk.free {k : Int} {Z' R : List Int} (h : Tk k Z) (h' : Tk k Z') (e : Z = Z' ++ R) : R = [] := by
  rcases h with ⟨rfl, P, h1, rfl⟩ | ⟨rfl, L, h1, rfl⟩ | ⟨rfl, L, h1, rfl⟩
  · rcases h' with ⟨-, Q, h2, rfl⟩ | ⟨h, -⟩ | ⟨h, -⟩
    · have a := rdPast_to h1 []
      rw [List.append_nil, e, rdPast_to h2 R] at a
      exact congrArg Prod.snd (Option.some.inj a)
    · omega
    · omega
  · rcases h' with ⟨h, -⟩ | ⟨-, Q, h2, rfl⟩ | ⟨h, -⟩
    · omega
    · have a := rdEnts_ok h1 []
      rw [List.append_nil, e, rdEnts_ok h2 R] at a
      exact congrArg Prod.snd (Option.some.inj a)
    · omega
  · rcases h' with ⟨h, -⟩ | ⟨h, -⟩ | ⟨-, Q, h2, rfl⟩
    · omega
    · omega
    · have a := rdRecs_to h1.1 h1.2 []
      rw [List.append_nil, e, rdRecs_to h2.1 h2.2 R] at a
      exact congrArg Prod.snd (Option.some.inj a)
theorem Tk.cut {k : Int} {t : Nat} (h : Tk k Z) (ht : t < Z.length) : ¬ Tk k (Z.take t) := fun h' => by
  have := h.free h' (R := Z.drop t) (List.take_append_drop t Z).symm
  have := congrArg List.length this
  rw [List.length_drop] at this
  simp at this
  omega
theorem Tk.more {k x : Int} (h : Tk k Z) : ¬ Tk k (Z ++ [x]) := fun h' => by
  have := h'.free h rfl
  cases this
set_option maxRecDepth 100000 in
set_option maxHeartbeats 8000000 in
theorem taken_any (k : Int) (hk : k = 1 ∨ k = 2 ∨ k = 3) (ro : Option Addr) (rn rc : Nat) (Z : List Int) (w : World) (S : U.Src w ro rn rc Z) (hcap : rn ≤ rc) (hz : rn ≤ 8000000000000) :
    Calls Tryz.prog 55 #[.slice ro rn rc, .int .i64 k] w fun e w' => GivesB w w' e (Tk k Z) := by
  have HZ : Hid (U.Src w ro rn rc Z ∧ rn ≤ rc ∧ rn ≤ 8000000000000) := ⟨S, hcap, hz⟩
  clear S hcap hz
  rcases hk with rfl | rfl | rfl
  · go_enter Tryz.func55, Tryz.ntmps55
    go_wp2_with fail
    refine (getPast_any ro rn rc Z _ HZ.out.1 HZ.out.2.1 (by have := HZ.out.2.2; omega)).mono ?_
    rintro e w2 ⟨b2, h2⟩
    have HB := hide b2
    clear b2
    rcases h2 with ⟨p1, h1, h2, rfl, -⟩ | ⟨hno, rfl⟩
    · have HT : Hid (Tk 1 Z) := .inl ⟨rfl, _, h1, h2⟩
      clear h1 h2
      go_wp2_with fail
      go_ret
      exact ⟨_, rfl, ⟨fun _ => HT.out, fun _ => rfl⟩, HB.out⟩
    · have HT : Hid (¬ Tk 1 Z) := by
        rintro (⟨-, P, h1, h2⟩ | ⟨h, -⟩ | ⟨h, -⟩)
        · exact hno P h1 h2
        · omega
        · omega
      clear hno
      go_wp2_with fail
      go_ret
      exact ⟨_, rfl, ⟨fun h => by simp at h, fun h => absurd h HT.out⟩, HB.out⟩
  · go_enter Tryz.func55, Tryz.ntmps55
    go_wp2_with fail
    refine (getE_any ro rn rc Z _ HZ.out.1 HZ.out.2.1 (by have := HZ.out.2.2; omega)).mono ?_
    rintro e w2 ⟨b2, h2⟩
    have HB := hide b2
    clear b2
    rcases h2 with ⟨L, bo, cc, h1, h2, rfl, -⟩ | ⟨hno, rfl⟩
    · have HT : Hid (Tk 2 Z) := .inr (.inl ⟨rfl, _, h1, h2⟩)
      clear h1 h2
      go_wp2_with fail
      go_ret
      exact ⟨_, rfl, ⟨fun _ => HT.out, fun _ => rfl⟩, HB.out⟩
    · have HT : Hid (¬ Tk 2 Z) := by
        rintro (⟨h, -⟩ | ⟨-, P, h1, h2⟩ | ⟨h, -⟩)
        · omega
        · exact hno P h1 h2
        · omega
      clear hno
      go_wp2_with fail
      go_ret
      exact ⟨_, rfl, ⟨fun h => by simp at h, fun h => absurd h HT.out⟩, HB.out⟩
  · go_enter Tryz.func55, Tryz.ntmps55
    go_wp2_with fail
    refine (getR_any ro rn rc Z _ HZ.out.1 HZ.out.2.1 (by have := HZ.out.2.2; omega) HZ.out.2.2).mono ?_
    rintro e w2 ⟨b2, h2⟩
    have HB := hide b2
    clear b2
    rcases h2 with ⟨L, bo, cc, h1, h2, rfl, h4⟩ | ⟨hno, rfl⟩
    · have HT : Hid (Tk 3 Z) := .inr (.inr ⟨rfl, _, ⟨h1, by have := h4.big; omega⟩, h2⟩)
      clear h1 h2 h4
      go_wp2_with fail
      go_ret
      exact ⟨_, rfl, ⟨fun _ => HT.out, fun _ => rfl⟩, HB.out⟩
    · have HT : Hid (¬ Tk 3 Z) := by
        rintro (⟨h, -⟩ | ⟨h, -⟩ | ⟨-, P, h1, h2⟩)
        · omega
        · omega
        · exact hno P h1 h2
      clear hno
      go_wp2_with fail
      go_ret
      exact ⟨_, rfl, ⟨fun h => by simp at h, fun h => absurd h HT.out⟩, HB.out⟩
theorem srcTake {q m cc : Nat} (S : U.Src w (some ⟨q, 0, none⟩) m cc Z) (k c : Nat) (hk : k ≤ m) : U.Src w (some ⟨q, 0, none⟩) k c (Z.take k) := by
  have hl := S.1
  refine ⟨by rw [List.length_take]; omega, fun e => (by cases e), fun ad e t ht => ?_, fun t => ?_⟩
  · rw [S.2.2.1 ad e t (by omega), List.getD_eq_getElem?_getD, List.getD_eq_getElem?_getD, List.getElem?_take, if_pos ht]
  · rw [List.getD_eq_getElem?_getD, List.getElem?_take]
    split
    · rw [← List.getD_eq_getElem?_getD]; exact S.2.2.2 t
    · exact ⟨by decide, by decide⟩
theorem srcBig {q m cc : Nat} (hne : 1 ≤ m) (S : U.Src w (some ⟨q, 0, none⟩) m cc Z) : q < w.heap.size := by
  have := S.2.2.1 ⟨q, 0, none⟩ rfl 0 (by omega)
  rw [Addr.add_lit] at this
  exact World.block_lt_of_cell? _ _ this
def four : List Int := [0, 1, 127, 255]
theorem four_at {g : Nat} (S : U.Src w (some ⟨g, 0, none⟩) 4 4 four) (k : Nat) (hk : k < 4) : w.cell? ⟨g, k, none⟩ = some (.int .u8 (four.getD k 0)) := by
  have := S.2.2.1 ⟨g, 0, none⟩ rfl k hk
  rwa [Addr.add_lit, Nat.zero_add] at this
theorem ap_newP {w0 w w' : World} {ao bo : Option Addr} (N : U.NewB w0 w ao) (A : U.Ap w w' ao bo) : Below w0.heap.size w0 w' := N.1.grown A.grown N.1.size N.2
set_option maxRecDepth 100000 in
set_option maxHeartbeats 8000000 in
theorem whole_any (k : Int) (hk : k = 1 ∨ k = 2 ∨ k = 3) (q m cc : Nat) (Z : List Int) (w : World) (S : U.Src w (some ⟨q, 0, none⟩) m cc Z) (hcap : m ≤ cc) (hz : m + 1 ≤ 8000000000000) (hT : Tk k Z) :
    Calls Tryz.prog 27 #[.slice (some ⟨q, 0, none⟩) m cc, .int .i64 k] w fun e w' => e = .returned (.bool true) ∧ Below w.heap.size w w' := by
  have HZ : Hid (U.Src w (some ⟨q, 0, none⟩) m cc Z ∧ Tk k Z ∧ (k = 1 ∨ k = 2 ∨ k = 3)) := ⟨S, hT, hk⟩
  have hlen := S.1
  have HL := hide hlen
  clear S hT hk hlen
  go_enter Tryz.func27, Tryz.ntmps27
  go_wp2_with fail
  have hdiv : ((m : Nat) : Int).tdiv 2000 = ((m / 2000 : Nat) : Int) := rfl
  obtain ⟨d, hd⟩ : ∃ d, m / 2000 = d := ⟨_, rfl⟩
  rw [hd] at hdiv
  have hdm : d ≤ m := by omega
  clear hd
  go_loopw [5] (fun i wr => ∃ (n : Nat), i = .int .i64 n ∧ n ≤ 20000000000000 ∧ Hid (Below w.heap.size w wr)) (fun i _ => 20000000000000 - (intOf i).toNat)
  case atStart => exact ⟨0, rfl, Nat.zero_le _, Below.refl _ _⟩
  case round =>
    obtain ⟨n, rfl, hn, HW⟩ := hrel
    rename World => wr
    by_cases hlt : n < m
    · have hlti : ((n : Nat) : Int) < (m : Int) := by omega
      obtain ⟨t, ht⟩ : ∃ t : Nat, t + 1 + n = m := ⟨m - 1 - n, by omega⟩
      have hti : (m : Int) - 1 - (n : Int) = (t : Int) := by omega
      have htc : t ≤ cc := by omega
      have htm : t < m := by omega
      have hnc : n ≤ cc := by omega
      have HN1 : Hid (¬ Tk k (Z.take n)) := HZ.out.2.1.cut (by rw [HL.out]; exact hlt)
      have HN2 : Hid (¬ Tk k (Z.take t)) := HZ.out.2.1.cut (by rw [HL.out]; exact htm)
      have HC1 := hide (taken_any k HZ.out.2.2 (some ⟨q, 0, none⟩) n n (Z.take n) wr (srcTake (HZ.out.1.below HW.out) n n (by omega)) (Nat.le_refl _) (by omega))
      clear ht
      go_wp2_with fail
      refine HC1.out.mono ?_
      rintro e w2 ⟨x, rfl, hx, b2⟩
      obtain rfl : x = false := by
        cases x with
        | false => rfl
        | true => exact absurd (hx.1 rfl) HN1.out
      have HW2 := hide (HW.out.trans (b2.mono HW.out.size))
      have HC2 := hide (taken_any k HZ.out.2.2 (some ⟨q, 0, none⟩) t t (Z.take t) w2 (srcTake (HZ.out.1.below HW2.out) t t (by omega)) (Nat.le_refl _) (by omega))
      clear hx b2 HC1
      go_wp2_with fail
      refine HC2.out.mono ?_
      rintro e w3 ⟨x, rfl, hx, b3⟩
      obtain rfl : x = false := by
        cases x with
        | false => rfl
        | true => exact absurd (hx.1 rfl) HN2.out
      have HW3 := hide (HW2.out.trans (b3.mono HW2.out.size))
      clear hx b3 HC2
      go_wp2_with fail
      exact ⟨⟨n + (1 + d), by congr 1, by omega, HW3⟩, by show 20000000000000 - (n + (1 + d)) < 20000000000000 - n; omega⟩
    · have hlti : ¬ ((n : Nat) : Int) < (m : Int) := by omega
      obtain ⟨g4, hg4⟩ : ∃ g4, wr.heap.size = g4 := ⟨_, rfl⟩
      have S4 := src_lit wr 5 (0, 0) #[.int .u8 0, .int .u8 1, .int .u8 127, .int .u8 255] four rfl (by decide) g4 4 hg4 rfl
      have b4 := below_new wr (.cells #[.int .u8 0, .int .u8 1, .int .u8 127, .int .u8 255] 5)
      obtain ⟨w4, hw4⟩ : ∃ w4, wr.alloc (.cells #[.int .u8 0, .int .u8 1, .int .u8 127, .int .u8 255] 5) = w4 := ⟨_, rfl⟩
      rw [hw4] at S4 b4
      have HB4 := hide (HW.out.trans (b4.mono HW.out.size))
      have HS4 := hide S4
      clear S4 b4 HW
      go_wp2_with fail
      clear hg4 hw4
      go_loopw [7, 42] (fun _ i wx => ∃ (j : Nat), i = .int .i64 j ∧ j ≤ 4 ∧ Hid (Below w4.heap.size w4 wx)) (fun _ i _ => 4 - (intOf i).toNat)
      case atStart => exact ⟨0, rfl, Nat.zero_le _, Below.refl _ _⟩
      case round =>
        obtain ⟨j, rfl, hj, HX⟩ := hrel
        rename World => wx
        have HBx := hide (HB4.out.trans (HX.out.mono HB4.out.size))
        by_cases hj4 : j < 4
        · have hj4i : ((j : Nat) : Int) < 4 := by omega
          have cj := four_at (HS4.out.below HX.out) j hj4
          have hc : Hid (0 ≤ four.getD j 0 ∧ four.getD j 0 ≤ 255) := HS4.out.2.2.2 j
          obtain ⟨c, hcc⟩ : ∃ c, four.getD j 0 = c := ⟨_, rfl⟩
          rw [hcc] at cj hc
          have HLt := hide (U.BR.lit wx)
          have HYn := hide (below_new wx (.cells #[] 5))
          have HRl := hide ((HZ.out.1.below HBx.out).below HYn.out)
          have hb1 : 0 + m ≤ 140737488355328 := by omega
          have hb2 : m + 1 ≤ 140737488355328 := by omega
          clear hcc
          go_wp2_with first
            | (at_builtin; go_loud (refine U.BR.app1 hr1 c hb2 rfl (.tmp 48) (.tmp 50) rfl rfl rfl ?_); intro bo2 c2 wx2 hr2 ha2)
            | (at_builtin; go_loud (refine U.BR.appB HLt.out HRl.out.bs hb1 rfl (.tmp 46) (.tmp 47) rfl rfl rfl ?_); intro bo1 c1 wx1 hr1 ha1; rw [Nat.zero_add, List.nil_append] at hr1; rw [Nat.zero_add])
          have hBx2 : Below wx.heap.size wx wx2 := ap_newP ha1.fresh ha2
          have hOx : U.Oc (Z ++ [c]) := fun t => by
            rw [List.getD_eq_getElem?_getD, List.getElem?_append]
            split
            · rw [← List.getD_eq_getElem?_getD]; exact HZ.out.1.2.2.2 t
            · rw [← List.getD_eq_getElem?_getD]
              cases t - Z.length with
              | zero => exact hc.out
              | succ i => simp
          have HN : Hid (¬ Tk k (Z ++ [c])) := HZ.out.2.1.more
          have HX2 := hide (HX.out.trans (hBx2.mono HX.out.size))
          have HC := hide (taken_any k HZ.out.2.2 bo2 (m + 1) c2 (Z ++ [c]) wx2 (bsSrc hr2.bs hOx) hr2.cap hz)
          clear hr1 ha1 hr2 ha2 hBx2 hOx cj HLt HYn HRl hb1 hb2 HBx
          refine HC.out.mono ?_
          rintro e w5 ⟨x, rfl, hx, b5⟩
          obtain rfl : x = false := by
            cases x with
            | false => rfl
            | true => exact absurd (hx.1 rfl) HN.out
          have HX5 := hide (HX2.out.trans (b5.mono HX2.out.size))
          clear hx b5 HC
          go_wp2_with fail
          exact ⟨⟨j + 1, rfl, by omega, HX5⟩, by show 4 - (j + 1) < 4 - j; omega⟩
        · have hj4i : ¬ ((j : Nat) : Int) < 4 := by omega
          go_wp2_with fail
          refine (taken_any k HZ.out.2.2 (some ⟨q, 0, none⟩) m cc Z wx (HZ.out.1.below HBx.out) hcap (by omega)).mono ?_
          rintro e w5 ⟨x, rfl, hx, b5⟩
          obtain rfl : x = true := hx.2 HZ.out.2.1
          have HB5 := hide (HBx.out.trans (b5.mono HBx.out.size))
          clear hx b5
          go_wp2_with fail
          go_ret
          exact ⟨rfl, HB5.out⟩
end Go.Proofs.YtphohmoibnoeaaaGreat
