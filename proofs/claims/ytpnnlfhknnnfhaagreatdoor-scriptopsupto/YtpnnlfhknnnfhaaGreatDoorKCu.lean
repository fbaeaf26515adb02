/- script.cut. -/
import Derived.Test.YtpnnlfhknnnfhaaGreatDoorKWd
import Derived.Test.YtpnnlfhknnnfhaaGreatDoorJPo
namespace Go.Proofs.YtpnnlfhknnnfhaaGreatDoor
open Go.RowKit T Y V
variable {w w' w2 : World} {g : Nat}

/-- how long a text is -/
def szOf (v : Value) : Nat := match v with | .string s => s.size | _ => 0
/-- cut's answer -/
def CutA (w w' : World) (a : Option (List (List UInt8))) (e : Ending) : Prop :=
  match a with
  | none => e = .returned (.tuple #[.slice none 0 0, .bool false])
  | some ws => ∃ bo n c, e = .returned (.tuple #[.slice bo n c, .bool true]) ∧ SR w' bo n c (ws.map bs) ∧ ∀ k, blk bo = some k → w.heap.size ≤ k
theorem hasPrefix_one (l : List UInt8) : Lib.hasPrefix l [35] = decide (l.head? = some 35) := by
  unfold Lib.hasPrefix
  cases l with
  | nil => rfl
  | cons c t =>
    simp [List.isPrefixOf]
    by_cases h : c = 35
    · simp [h]
    · have h2 : ¬ (35 : UInt8) = c := fun e => h e.symm
      simp [h, h2]
theorem fresh_step {ao bo : Option Addr} {n : Nat} (A : Ap w w2 ao bo) (hn : n ≤ w.heap.size) (hk : ∀ k, blk ao = some k → n ≤ k) : ∀ k, blk bo = some k → n ≤ k := by
  intro k hb
  rcases A.lies with e | ⟨j, e, hj⟩
  · exact hk k (e ▸ hb)
  · rw [e] at hb
    have := Option.some.inj hb
    omega
set_option maxRecDepth 100000 in
set_option maxHeartbeats 3200000 in
theorem cut_any (l : List UInt8) (hl : l.length ≤ 1000000000000) (w : World) : Calls Tryz.prog 8 #[.string (bs l)] w fun e w' => CutA w w' (cutP l) e ∧ Below w.heap.size w w' := by
  obtain ⟨R0, hR0⟩ : ∃ R0, skipG l = R0 := ⟨_, rfl⟩
  have hT := trim_any l w
  have hP := fun w => Tryz.strings_HasPrefix (bs R0) ⟨#[35]⟩ w
  have e35 : (⟨#[35]⟩ : ByteArray).data.toList = [35] := rfl
  rw [bs_list, e35, hasPrefix_one] at hP
  have hlen : R0.length ≤ l.length := by rw [← hR0]; exact (List.dropWhile_sublist _).length_le
  rw [hR0] at hT
  have HT := hide hT
  have HP := hide hP
  by_cases h35 : R0.head? = some 35
  · rw [decide_eq_true h35] at HP
    have HF : Hid (cutP l = some []) := by show _ = _; unfold cutP; rw [hR0, if_pos h35]
    clear hT hP hR0 h35 e35
    go_enter Tryz.func8, Tryz.ntmps8
    go_wp2_with (first | (go_at_call 16; refine HT.out.mono ?_; rintro e w1 ⟨rfl, b1⟩) | (go_at_call 17; refine (HP.out _).mono ?_; rintro e w2 ⟨rfl, h2⟩; subst w2))
    go_ret2
    refine ⟨?_, b1⟩
    rw [HF.out]
    exact ⟨none, 0, 0, rfl, SR.nil _, fun k hk => by cases hk⟩
  · rw [decide_eq_false h35] at HP
    have hF : cutP l = cutR R0 := by unfold cutP; rw [hR0, if_neg h35, ← hR0, cutR_skip]
    have HK0 : Hid (skipG R0 = R0) := by show _ = _; rw [← hR0, skipG_skipG]
    rw [hF]
    clear hT hP hR0 h35 e35 hF
    go_enter Tryz.func8, Tryz.ntmps8
    go_wp2_with (first | (go_at_call 16; refine HT.out.mono ?_; rintro e w1 ⟨rfl, b1⟩) | (go_at_call 17; refine (HP.out _).mono ?_; rintro e w2 ⟨rfl, h2⟩; subst w2))
    have HB1 := hide b1
    clear b1 HT HP
    go_loopw [4, 5] (fun t v wr => ∃ (bo : Option Addr) (n c : Nat) (Z : List (List UInt8)) (R : List UInt8), t = .slice bo n c ∧ v = .string (bs R) ∧ n + R.length ≤ l.length ∧ Hid (SR wr bo n c (Z.map bs)) ∧ Hid (cutR R0 = (cutR R).map (Z ++ ·)) ∧ Hid (skipG R = R) ∧ Hid (Below w.heap.size w wr) ∧ Hid (∀ k, blk bo = some k → w.heap.size ≤ k)) (fun _ v _ => szOf v)
    case atStart => exact ⟨none, 0, 0, [], R0, rfl, rfl, by omega, SR.nil _, (by show _ = _; simp), HK0, HB1, (fun k hk => by cases hk)⟩
    case round =>
      clear HB1 HK0
      obtain ⟨bo, n, c, Z, R, rfl, rfl, hn, HR, HC, HS, HB, HF⟩ := hrel
      cases R with
      | nil =>
        have he : (bs ([] : List UInt8)).toList.isEmpty = true := empty_yes _ (by rw [bs_size]; rfl)
        have HE : Hid (cutR R0 = some Z) := by show _ = _; rw [HC.out, cutR_nil rfl]; simp
        clear HC
        go_wp2
        go_ret2
        refine ⟨?_, HB.out⟩
        rw [HE.out]
        exact ⟨bo, n, c, rfl, HR.out, HF.out⟩
      | cons x t =>
        have he : (bs (x :: t)).toList.isEmpty = false := empty_no _ (by rw [bs_size]; simp)
        have ht : t.length + 1 + n ≤ 1000000000000 := by simp only [List.length_cons] at hn; omega
        have HW := hide (fun w => firstWord_any x t (by omega) w)
        cases hw : wlen (x :: t) with
        | none =>
          have HE : Hid (cutR R0 = none) := by show _ = _; rw [HC.out, cutR_none HS.out (by simp) hw]; rfl
          have HW2 : Hid (∀ w, Calls Tryz.prog 18 #[.string (bs (x :: t))] w fun e w' => (∃ m : Int, e = .returned (.tuple #[.int .i64 m, .bool false])) ∧ w' = w) := fun w => (HW.out w).mono fun e w' ⟨⟨m, h1, _⟩, h2⟩ => ⟨⟨m, by rw [h1, hw]; rfl⟩, h2⟩
          clear HC hw HW
          go_wp2_with (go_at_call 18; refine (HW2.out _).mono ?_; rintro e w2 ⟨⟨m, rfl⟩, h2⟩; subst w2)
          go_ret2
          refine ⟨?_, HB.out⟩
          rw [HE.out]
          rfl
        | some q =>
          have hq0 := wlen_pos hw
          have hq := wlen_le hw
          have hE : cutR R0 = (cutR (skipG ((x :: t).drop q))).map ((Z ++ [(x :: t).take q]) ++ ·) := by
            rw [HC.out, cutR_some HS.out hw, cutR_skip, Option.map_map]
            congr 1
            funext y
            simp
          have HE := hide hE
          have HW2 : Hid (∀ w, Calls Tryz.prog 18 #[.string (bs (x :: t))] w fun e w' => e = .returned (.tuple #[.int .i64 (q : Int), .bool true]) ∧ w' = w) := fun w => (HW.out w).mono fun e w' ⟨⟨m, h1, h3⟩, h2⟩ => ⟨by rw [h1, h3 q hw, hw]; rfl, h2⟩
          have hsz : (bs (x :: t)).size = t.length + 1 := by rw [bs_size]; rfl
          have hx1 : (bs (x :: t)).extract 0 q = bs ((x :: t).take q) := by rw [bs_cut]; rfl
          have hx2 : (bs (x :: t)).extract q (bs (x :: t)).size = bs ((x :: t).drop q) := by rw [bs_cut, bs_size, List.take_length]
          have Hlen : Hid (n + 1 + (skipG ((x :: t).drop q)).length ≤ l.length) := by
            show _ ≤ _
            have h1 : (skipG ((x :: t).drop q)).length ≤ ((x :: t).drop q).length := (List.dropWhile_sublist _).length_le
            rw [List.length_drop] at h1
            omega
          have Hms : Hid ((skipG ((x :: t).drop q)).length < (x :: t).length) := by
            show _ < _
            have h1 : (skipG ((x :: t).drop q)).length ≤ ((x :: t).drop q).length := (List.dropWhile_sublist _).length_le
            rw [List.length_drop] at h1
            omega
          have HS2 := hide (skipG_skipG ((x :: t).drop q))
          obtain ⟨s, hs⟩ : ∃ s, bs (x :: t) = s := ⟨_, rfl⟩
          have Hss : Hid (s.size = (x :: t).length) := by show _ = _; rw [← hs, bs_size]
          obtain ⟨W1, hW1⟩ : ∃ W1, (x :: t).take q = W1 := ⟨_, rfl⟩
          obtain ⟨D1, hD1⟩ : ∃ D1, (x :: t).drop q = D1 := ⟨_, rfl⟩
          rw [hW1] at hx1 HE
          rw [hD1] at hx2 HE Hlen Hms HS2
          rw [hs] at he hx1 hx2 hsz HW2 ⊢
          have hqs : q ≤ s.size := by simp only [List.length_cons] at hq; omega
          have hqI : (q : Int) ≤ s.size := by omega
          have hsb : s.size ≤ 1000000000001 := by omega
          have HTr := hide (fun w => trim_any D1 w)
          clear HC hw HW hE HS hs hW1 hD1 hsz hq
          go_wp2_with (first | (go_at_call 18; refine (HW2.out _).mono ?_; rintro e w2 ⟨rfl, h2⟩; subst w2) | (go_at_call 16; (try rw [hx2]); refine (HTr.out _).mono ?_; rintro e w5 ⟨rfl, b5⟩) | (at_builtin; (try rw [hx1]); refine HR.out.app1 (bs W1) (by omega) rfl (.tmp 21) (.tmp 25) rfl rfl rfl ?_; intro b3 q3 w3 R3 A3; have HB3 := hide (below_ap HB.out HB.out.size A3 HF.out); have HF3 := hide (fresh_step A3 HB.out.size HF.out); have HR3 := hide R3; clear R3 A3))
          go_roundw
          case rel => exact ⟨b3, n + 1, q3, Z ++ [W1], skipG D1, rfl, rfl, Hlen.out, by show SR _ _ _ _ _; rw [List.map_append]; exact SR_below HR3.out b5, HE, HS2, HB3.out.trans (b5.mono HB3.out.size), HF3⟩
          case measure => simp only [szOf]; rw [bs_size, Hss.out]; exact Hms.out
end Go.Proofs.YtpnnlfhknnnfhaaGreatDoor
