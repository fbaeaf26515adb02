/- script.Parse. -/
import Derived.Test.YtocfbanbphhhbaaDoorKTk
namespace Go.Proofs.YtocfbanbphhhbaaDoor
open Go.RowKit T Y V
variable {w w' w2 : World} {g : Nat}
attribute [local go_sem ↓] ldSh_eq stSh_eq ldO_eq stO_eq ldHd_eq stHd_eq ldS_eq stS_eq

theorem res3S {fn : Func} {p q u : Tmp} {m : Sc} {v v2 : Value} (h : fn.results = #[.cell p 26, .tmp q, .tmp u]) {tmps : Array Value} (hp : tmps.getD p undef = .pointer (some ⟨g, 0, none⟩)) (hq : tmps.getD q undef = v) (hu : tmps.getD u undef = v2) (A : SBox w g m) :
    (results fn tmps).run Tryd.prog w = .ok (.tuple #[.agg (SC m), v, v2]) w := by
  have hl := run_lvS A
  simp only [results, h]
  rw [Array.getD_eq_getD_getElem?] at hp hq hu
  simp [hp, hq, hu, asAddr, hl]
theorem sc_put {m o : Sc} (h : SBox w g m) : ∃ w1, (stS (.pointer (some ⟨g, 0, none⟩)) (.agg (SC o))).run Tryd.prog w = .ok () w1 ∧ SBox w1 g o ∧ KG w w1 g := by
  refine ⟨_, run_stS (m' := o) h, h.setRow, ⟨⟨rfl, rfl, rfl, by simp [World.setRow], fun k hk hne => setRow_other _ _ _ _ (by intro e; apply hne; rw [e])⟩⟩⟩
def scOf (h : Hdr) (so : Option Addr) (n c : Nat) : Sc := ⟨h.reps, h.carts, h.lines, h.count, h.log, h.toks, so, n, c⟩
/-- Parse's answer -/
def PaA (w w' : World) (a : Pr) (e : Ending) : Prop :=
  match a with
  | .ok h L => ∃ so n c, e = .returned (.tuple #[.agg (SC (scOf (hdL h) so n c)), .int .i64 0, .int .i64 0]) ∧ OR w' so n c L ∧ ∀ k, blk so = some k → w.heap.size ≤ k
  | .bad n => e = .returned (.tuple #[.agg (SC sc0), .int .i64 (n : Int), .int .i64 17])
set_option maxRecDepth 100000 in
set_option maxHeartbeats 6400000 in
theorem parse_any (T : List UInt8) (hT : T.length ≤ 100000000000) (w : World) (hu : Un w) : Calls Tryd.prog 6 #[.string (bs T)] w fun e w' => PaA w w' (parseP T) e ∧ Below w.heap.size w w' := by
  obtain ⟨w1, hw1⟩ : ∃ w1, w.alloc (.cells #[.int .i64 0, .int .i64 0, .int .i64 0, .int .i64 0, .int .i64 0, .int .i64 0, .slice none 0 0] 26) = w1 := ⟨_, rfl⟩
  have hx1 : SBox w1 w.heap.size sc0 := by rw [← hw1]; exact SBox_new w sc0
  have hb1 : Below w.heap.size w w1 := by rw [← hw1]; exact below_new _ _
  have hz1 : w1.heap.size = w.heap.size + 1 := by rw [← hw1]; simp
  obtain ⟨w2, hw2⟩ : ∃ w2, w1.alloc (.cells #[.int .i64 0, .int .i64 0, .int .i64 0, .int .i64 0, .int .i64 0, .int .i64 0, .slice none 0 0, .bool false] 44) = w2 := ⟨_, rfl⟩
  have hb2 : Below w1.heap.size w1 w2 := by rw [← hw2]; exact below_new _ _
  have hr2 : Rm w2 w1.heap.size ⟨none, []⟩ hd0 none 0 0 := ⟨by rw [← hw2]; unfold Rbx; rw [heap_alloc_new]; rfl, OR.nil _, (fun l h => by cases h), (fun k h => by cases h)⟩
  have HR0 := hide hr2
  have HX0 := hide (hx1.below hb2)
  have HB0 := hide (hb1.trans (hb2.mono hb1.size))
  have HU := hide hu
  have HZ1 := hide hz1
  obtain ⟨g5, hg5⟩ : ∃ g5, w1.heap.size = g5 := ⟨_, rfl⟩
  rw [hg5] at HR0 HZ1
  clear hx1 hb1 hr2 hb2 hu hz1
  go_enter Tryd.func6, Tryd.ntmps6
  go_wp2_with fail
  clear hw1 hw2 hg5
  go_loopw [0, 6] (fun u v wr => ∃ (R : List UInt8) (k : Nat) (r : Rd) (h : Hdr) (so : Option Addr) (n c : Nat), u = .string (bs R) ∧ v = .int .i64 (k : Int) ∧ n ≤ k ∧ k + R.length ≤ T.length ∧ Hid (Rm wr g5 r h so n c) ∧ Hid (parseP T = parseT r k R) ∧ Hid (SBox wr w.heap.size sc0) ∧ Hid (Below w.heap.size w wr)) (fun u _ _ => szOf u)
  case atStart => exact ⟨T, 0, ⟨none, []⟩, hd0, none, 0, 0, rfl, rfl, by omega, by omega, HR0, rfl, HX0, HB0⟩
  case round =>
    clear HR0 HX0 HB0
    obtain ⟨R, k, r, h, so, n, c, rfl, rfl, hnk, hkR, HR, HP, HX, HB⟩ := hrel
    cases R with
    | nil =>
      have he : (bs ([] : List UInt8)).toList.isEmpty = true := empty_yes _ (by rw [bs_size]; rfl)
      have c7 := HR.out.x.c7.1
      have hk2 : k ≤ 100000000000 := by omega
      cases hh : r.hd with
      | none =>
        rw [hh] at c7
        have HE : Hid (parseP T = .bad (k + 1)) := by show _ = _; rw [HP.out, parseT_nil, hh]
        obtain ⟨w3, hst, hx3, k3⟩ := sc_put (o := sc0) HX.out
        have hst' : (stS (.pointer (some ⟨w.heap.size, 0, none⟩)) (.agg #[.int .i64 0, .int .i64 0, .int .i64 0, .int .i64 0, .int .i64 0, .int .i64 0, .slice none 0 0])).run Tryd.prog wr = .ok () w3 := hst
        have HX3 := hide hx3
        have HB3 : Hid (Below w.heap.size w w3) := HB.out.trans (k3.below (Nat.le_refl _) HB.out.size)
        obtain ⟨j, hj⟩ : ∃ j, k + 1 = j := ⟨_, rfl⟩
        have HJ : Hid ((j : Int) = (k : Int) + 1) := by show _ = _; omega
        rw [hj] at HE
        clear hst hx3 k3 hh HP hj
        go_wp2_with fail
        refine bodyPost_ret (res3S Tryd.results6 rfl rfl rfl HX3.out) rfl ⟨?_, HB3.out⟩
        rw [HE.out]
        show _ = _
        first | rfl | (rw [HJ.out]; rfl)
      | some hd =>
        rw [hh] at c7
        have HE : Hid (parseP T = .ok hd r.ops) := by show _ = _; rw [HP.out, parseT_nil, hh]
        have hld := HR.out.x.ld
        obtain ⟨w3, hst, hx3, k3⟩ := sc_put (o := scOf h so n c) HX.out
        have hst' : (stS (.pointer (some ⟨w.heap.size, 0, none⟩)) (.agg (SC ⟨h.reps, h.carts, h.lines, h.count, h.log, h.toks, so, n, c⟩))).run Tryd.prog wr = .ok () w3 := hst
        have HX3 := hide hx3
        have HB3 : Hid (Below w.heap.size w w3) := HB.out.trans (k3.below (Nat.le_refl _) HB.out.size)
        have Hh := hide (HR.out.e hd hh)
        have HO3 : Hid (OR w3 so n c r.ops) := HR.out.o.keep fun k e => k3.gr.block k (HR.out.o.lt k e) (by intro e2; have h1 := Option.some.inj e2; have h2 := HR.out.k k e; have := HZ1.out; omega)
        have HF : Hid (∀ k, blk so = some k → w.heap.size ≤ k) := fun k e => by have h2 := HR.out.k k e; have := HZ1.out; omega
        clear hst hx3 k3 hh HP
        go_wp2_with fail
        refine bodyPost_ret (res3S Tryd.results6 rfl rfl rfl HX3.out) rfl ⟨?_, HB3.out⟩
        rw [HE.out]
        exact ⟨so, n, c, by rw [← Hh.out]; rfl, HO3.out, HF.out⟩
    | cons x t =>
      have he : (bs (x :: t)).toList.isEmpty = false := empty_no _ (by rw [bs_size]; simp)
      obtain ⟨R, hRe⟩ : ∃ R, x :: t = R := ⟨_, rfl⟩
      have hne : R ≠ [] := by rw [← hRe]; simp
      rw [hRe] at he hkR HP ⊢
      clear hRe
      have hlt := rest_lt hne
      have HL := hide (fun w => cutNl_any R (by omega) w)
      have hll : (lineOf R).length ≤ R.length := (List.takeWhile_sublist _).length_le
      have hk2 : k ≤ 100000000000 := by omega
      have HTk := hide (fun v (hm : Rm v g5 r h so n c) (hu : Un v) => take_any r (lineOf R) (by omega) h so n c (by omega) v hm hu)
      obtain ⟨j, hj⟩ : ∃ j, k + 1 = j := ⟨_, rfl⟩
      have HJ : Hid ((j : Int) = (k : Int) + 1) := by show _ = _; omega
      have HRs : Hid ((bs R).size = R.length) := bs_size R
      obtain ⟨s, hs⟩ : ∃ s, bs R = s := ⟨_, rfl⟩
      rw [hs] at he HL HRs ⊢
      cases htk : takeP r (lineOf R) with
      | none =>
        have HE : Hid (parseP T = .bad j) := by show _ = _; rw [HP.out, parseT_bad hne htk, hj]
        rw [htk] at HTk
        clear htk HP hj hs hlt hll
        go_wp2_with (first | (go_at_call 15; refine (HL.out _).mono ?_; rintro e w3 ⟨⟨b, rfl⟩, b3⟩; have HR3 := hide (HR.out.below b3); have HX3 := hide (HX.out.below b3); have HB3 := hide (HB.out.trans (b3.mono HB.out.size)); clear b3) | (go_at_call 16; refine (HTk.out _ HR3.out (HU.out.on HB3.out)).mono ?_; rintro e w4 ⟨rfl, -, b4⟩; have hx4 : SBox w4 w.heap.size sc0 := (b4.block w.heap.size (by have := HZ1.out; omega)).trans HX3.out; obtain ⟨w5, hst, hx5, k5⟩ := sc_put (o := sc0) hx4; have hst' : (stS (.pointer (some ⟨w.heap.size, 0, none⟩)) (.agg #[.int .i64 0, .int .i64 0, .int .i64 0, .int .i64 0, .int .i64 0, .int .i64 0, .slice none 0 0])).run Tryd.prog w4 = .ok () w5 := hst; have HX5 := hide hx5; have bw4 : Below w.heap.size w w4 := HB3.out.trans (b4.mono (by have := HZ1.out; omega)); have HB5 : Hid (Below w.heap.size w w5) := bw4.trans (k5.below (Nat.le_refl _) bw4.size); clear hx4 hx5 k5 bw4 hst b4))
        refine bodyPost_ret (res3S Tryd.results6 rfl rfl rfl HX5.out) rfl ⟨?_, HB5.out⟩
        rw [HE.out]
        show _ = _
        first | rfl | (rw [HJ.out]; rfl)
      | some r' =>
        have HE : Hid (parseP T = parseT r' j (restOf R)) := by show _ = _; rw [HP.out, parseT_go hne htk, hj]
        rw [htk] at HTk
        have Hms : Hid ((restOf R).length < R.length) := hlt
        have Hjr : Hid (j + (restOf R).length ≤ T.length) := by show _ ≤ _; omega
        have Hjn : Hid (n + 1 ≤ j) := by show _ ≤ _; omega
        clear htk HP hj hs hlt hll
        go_wp2_with (first | (go_at_call 15; refine (HL.out _).mono ?_; rintro e w3 ⟨⟨b, rfl⟩, b3⟩; have HR3 := hide (HR.out.below b3); have HX3 := hide (HX.out.below b3); have HB3 := hide (HB.out.trans (b3.mono HB.out.size)); clear b3) | (go_at_call 16; refine (HTk.out _ HR3.out (HU.out.on HB3.out)).mono ?_; rintro e w4 ⟨rfl, hr4, b4⟩; obtain ⟨h2, so2, n2, c2, hm4, hn4⟩ := hr4 r' rfl; have HX4 : Hid (SBox w4 w.heap.size sc0) := (b4.block w.heap.size (by have := HZ1.out; omega)).trans HX3.out; have HB4 : Hid (Below w.heap.size w w4) := HB3.out.trans (b4.mono (by have := HZ1.out; omega)); have HR4 := hide hm4; have Hn4 := hide hn4; clear hr4 b4 hm4 hn4))
        go_roundw
        case rel => exact ⟨restOf R, j, r', h2, so2, n2, c2, rfl, by first | rfl | (rw [HJ.out]), by have := Hn4.out; have := Hjn.out; omega, Hjr.out, HR4, HE, HX4, HB4⟩
        case measure => simp only [szOf]; rw [bs_size, HRs.out]; exact Hms.out
end Go.Proofs.YtocfbanbphhhbaaDoor
