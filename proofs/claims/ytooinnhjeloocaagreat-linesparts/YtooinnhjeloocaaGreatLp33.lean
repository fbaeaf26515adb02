/- ODt -/
import Derived.Test.YtooinnhjeloocaaGreatLp17
import Derived.Test.YtooinnhjeloocaaGreatLp32
namespace Go.Proofs.YtooinnhjeloocaaGreat
open Go.RowKit
attribute [local go_sem ↓] ldP_eq stP_eq ldD_eq stD_eq K.ld28_eq K.st28_eq
attribute [local go_sem] cells_PV PC_size
variable {w w' w2 W W' : World} {g : Nat}

def dotOf (e : K.En) : Rn := ⟨e.rep, e.num⟩
/-- what Dots answers -/
def DtA (w w' : World) (x : Ending) (L : List K.En) : Prop := Below w.heap.size w w' ∧ ((K.chk L = 0 ∧ ∃ p : Pv, x = .returned (.tuple #[PV p, .int .i64 0]) ∧ PSrc w' p ∧ PNew w.heap.size p ∧ CanonOf (dotsG (L.map dotOf)) p.P) ∨ (¬ K.chk L = 0 ∧ x = .returned (.tuple #[PV pv0, .int .i64 1])))
theorem res2Pn {fn : Func} {p q : Tmp} {m : Pv} {v : Value} (h : fn.results = #[.cell p 26, .tmp q]) {tmps : Array Value} (hp : tmps.getD p undef = .pointer (some ⟨g, 0, none⟩)) (hq : tmps.getD q undef = v) (A : PBox w g m) :
    (results fn tmps).run Tryz.prog w = .ok (.tuple #[PV m, v]) w := by
  have hl := run_lvP A.at
  simp only [results, h]
  rw [Array.getD_eq_getD_getElem?] at hp hq
  simp [hp, hq, asAddr, hl]
set_option maxRecDepth 100000 in
set_option maxHeartbeats 3200000 in
theorem dots_any (ao : Option Addr) (n cap : Nat) (L : List K.En) (w : World) (hS : K.ESrc w ao n cap L) : Calls Tryz.prog 11 #[.slice ao n cap] w fun x w' => DtA w w' x L := by
  have b1 := below_new w (.cells #[.slice none 0 0, .slice none 0 0] 26)
  have x1 : PBox (w.alloc (.cells #[.slice none 0 0, .slice none 0 0] 26)) w.heap.size pv0 := pbox_new w pv0
  obtain ⟨w1, hw1⟩ : ∃ w1, w.alloc (.cells #[.slice none 0 0, .slice none 0 0] 26) = w1 := ⟨_, rfl⟩
  obtain ⟨g1, hg1⟩ : ∃ g1, w.heap.size = g1 := ⟨_, rfl⟩
  rw [hw1] at b1 x1
  rw [hg1] at x1
  have HX : Hid (PBox w1 g1 pv0 ∧ K.ESrc w1 ao n cap L ∧ Below w.heap.size w w1 ∧ w.heap.size = g1) := ⟨x1, hS.below b1, b1, hg1⟩
  have HL : Hid (L.length = n ∧ n ≤ 3518437208883) := ⟨hS.1, hS.2.2.2.2⟩
  have hnb := HL.out.2
  clear b1 x1 hS
  go_enter Tryz.func11, Tryz.ntmps11
  go_wp2_with fail
  clear hw1 hg1
  refine (K.lcheck_any ao n cap L _ HX.out.2.1).mono ?_
  rintro x w2 ⟨rfl, b2⟩
  have HB2 := hide (HX.out.2.2.1.trans (b2.mono HX.out.2.2.1.size))
  have HX2 : Hid (PBox w2 g1 pv0 ∧ K.ESrc w2 ao n cap L ∧ w.heap.size = g1) := ⟨HX.out.1.below b2, HX.out.2.1.below b2, HX.out.2.2.2⟩
  clear b2 HX
  rcases K.chk_cases L with hc | hc
  rotate_left
  · have HE : Hid (DtA w (w2.setRow g1 (PC pv0)) (.returned (.tuple #[PV pv0, .int .i64 1])) L) := ⟨below_setRow HB2.out (by have := HX2.out.2.2; omega), .inr ⟨by rw [hc]; decide, rfl⟩⟩
    have t6 : (stP (.pointer (some ⟨g1, 0, none⟩)) (.agg #[.slice none 0 0, .slice none 0 0])).run Tryz.prog w2 = .ok () (w2.setRow g1 (PC pv0)) := run_stP (p' := pv0) HX2.out.1
    have HX0 : Hid (PBox (w2.setRow g1 (PC pv0)) g1 pv0) := setRow_heap _ _ _ _ _ _ HX2.out.1
    rw [hc]
    clear hc
    go_wp2_with fail
    refine bodyPost_ret (res2Pn rfl rfl rfl HX0.out) rfl ?_
    exact HE.out
  · rw [hc]
    have HC := hide hc
    clear hc
    go_wp2_with fail
    go_loopw [5, 16] (fun v i wr => ∃ (k : Nat) (ap : Option Addr) (c : Nat), k ≤ n ∧ v = .slice ap k c ∧ i = .int .i64 (k : Int) ∧ Hid (OwnD w2.heap.size w2.heap.size w2 wr ap c ((L.take k).map dotOf))) (fun _ i _ => n - (intOf i).toNat)
    case atStart => exact ⟨0, none, 0, Nat.zero_le _, rfl, rfl, World.ownsRow_nil _ _ _ _, Below.refl _ _, Nat.le_refl _, Nat.le_refl _⟩
    case round =>
      obtain ⟨k, ap, c, hk, rfl, rfl, HO⟩ := hrel
      rename World => wr
      obtain ⟨acc, Hacc⟩ : ∃ acc, Hid ((L.take k).map dotOf = acc) := ⟨_, rfl⟩
      have Hal : Hid (acc.length = k) := by show _ = _; rw [← Hacc.out, List.length_map, List.length_take]; have := HL.out.1; omega
      rw [Hacc.out] at HO
      by_cases hlt : k < n
      · have hlti : (k : Int) < (n : Int) := by omega
        obtain ⟨ad, hao, A0⟩ := (HX2.out.2.1.below HO.out.below).at k hlt
        subst hao
        obtain ⟨e, He⟩ : ∃ e, Hid (L.getD k K.en0 = e) := ⟨_, rfl⟩
        rw [He.out] at A0
        have hld := K.run_ld28 A0
        have HT := hide (K.take_snoc L k (by rw [HL.out.1]; exact hlt))
        rw [He.out] at HT
        have HN : Hid ((L.take (k + 1)).map dotOf = acc ++ [dotOf e]) := by show _ = _; rw [HT.out, List.map_append, Hacc.out]; rfl
        obtain ⟨g7, hg7⟩ : ∃ g7, wr.heap.size = g7 := ⟨_, rfl⟩
        obtain ⟨w7, hst, X7, B7, -⟩ := K.made wr e g7 hg7
        replace hst : (K.st28 (.pointer (some ⟨g7, 0, none⟩)) (K.EV e)).run Tryz.prog (wr.alloc (.cells #[.int .i64 0, .int .i64 0, .string ⟨#[]⟩, .int .i64 0] 36)) = .ok () w7 := hst
        have HO7 := hide (HO.out.later B7)
        have l7 : (ldD (.pointer (some ⟨g7, 0, none⟩))).run Tryz.prog w7 = .ok (.agg #[.int .i64 e.rep, .int .i64 e.num]) w7 := run_ldD (enc_dot X7)
        have Hlt := hide hlt
        clear A0 X7 B7 hlt
        go_wp2_with (at_builtin; go_loud (refine (HO7.out.later (below_new w7 _)).appendS [dotOf e] (some ⟨w7.heap.size, 0, none⟩) 1 1 (lit_rsrc w7 [dotOf e] _ rfl 28 1 rfl (by omega)) (by have := Hal.out; have := Hlt.out; omega) rfl (.tmp 20) (.tmp 23) rfl k Hal.out rfl rfl ?_); intro ao8 c8 w8 O8; have HO8 := hide O8; clear O8)
        clear hst hg7 hld
        go_roundw
        case rel => exact ⟨k + 1, ao8, c8, Hlt.out, rfl, by simp, by show OwnD _ _ _ _ _ _ _; rw [HN.out]; exact HO8.out⟩
        case measure => simp [intOf]; have := Hlt.out; omega
      · have hlti : ¬ (k : Int) < (n : Int) := by omega
        obtain rfl : k = n := by omega
        have HAc : Hid (acc = L.map dotOf) := by show _ = _; rw [← Hacc.out, List.take_of_length_le (by have := HL.out.1; omega)]
        obtain ⟨hsr, hnw⟩ := HO.out.src (by have := Hal.out; omega)
        have hsr2 : RSrc wr ap k c acc := by have := Hal.out; rw [this] at hsr; exact hsr
        have HC7 := hide (pastOfN_any ap k c acc wr hsr2)
        have HBr := hide (HB2.out.trans (HO.out.below.mono HB2.out.size))
        have HXr := hide (HX2.out.1.below HO.out.below)
        have HG : Hid (w.heap.size = g1 ∧ g1 < wr.heap.size) := ⟨HX2.out.2.2, HXr.out.lt⟩
        clear hsr hnw hsr2
        go_wp2_with fail
        refine HC7.out.mono ?_
        rintro x w8 ⟨p, rfl, S8, n8, b8, c8⟩
        have X8 := HXr.out.below b8
        have t8 := run_stP (p' := p) X8
        have HX8 : Hid (PBox (w8.setRow g1 (PC p)) g1 p) := setRow_heap _ _ _ _ _ _ X8
        have HE : Hid (DtA w (w8.setRow g1 (PC p)) (.returned (.tuple #[PV p, .int .i64 0])) L) := by
          have hb := HBr.out.trans (b8.mono HBr.out.size)
          refine ⟨below_setRow hb (by have := HG.out; omega), .inl ⟨HC.out, p, rfl, psrc_off S8 (fun ad h => setRow_other _ _ _ _ (by have := n8.1 ad h; have := HG.out; omega)) (fun ad h => setRow_other _ _ _ _ (by have := n8.2 ad h; have := HG.out; omega)), n8.mono (by have := HG.out; omega), by rw [← HAc.out]; exact c8⟩⟩
        clear S8 n8 b8 c8 X8 HC7
        go_wp2_with fail
        refine bodyPost_ret (res2Pn rfl rfl rfl HX8.out) rfl ?_
        exact HE.out
end Go.Proofs.YtooinnhjeloocaaGreat
