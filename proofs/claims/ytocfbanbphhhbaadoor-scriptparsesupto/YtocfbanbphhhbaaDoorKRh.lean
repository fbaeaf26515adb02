/- The reference's Parse. -/
import Derived.Test.YtocfbanbphhhbaaDoorKRf
import Derived.Test.YtocfbanbphhhbaaDoorKRg
import Derived.Test.YtocfbanbphhhbaaDoorKPs
import Derived.OrdersHeld
namespace Go.Proofs.YtocfbanbphhhbaaDoor
open Go.RowKit T Y V
variable {w w' w2 : World} {g : Nat}
attribute [local go_sem ↓] ldSh_eq stSh_eq ldO_eq stO_eq ldHd_eq stHd_eq ldS_eq stS_eq

/-- a row of one step made -/
def bsG (parts : Array (Nat × Value)) : Sem Value := Instr.buildSlice 24 1 parts
theorem bsG_eq (parts : Array (Nat × Value)) : Instr.buildSlice 24 1 parts = bsG parts := rfl
theorem run_bsG (o : Sp) (w : World) : (bsG #[(0, .agg (OC o))]).run Tryd.prog w = .ok (.slice (some ⟨w.heap.size, 0, none⟩) 1 1) (w.alloc (.cells (OC o) 31)) := by kernel_rfl
attribute [local go_sem ↓] bsG_eq
attribute [local go_sem] run_bsG

theorem says_cut {u : List UInt8} (h : saysL u = true) : cutP u = cutR u ∧ cutR u ≠ some [] := by
  have h2 := says_yes h
  have e : cutP u = cutR u := by
    unfold cutP
    rw [if_neg]
    intro h35
    unfold saysL at h
    cases hs : skipG u with
    | nil => rw [hs] at h35; cases h35
    | cons c t =>
      rw [hs] at h h35
      have := Option.some.inj h35
      subst this
      simp at h
  exact ⟨e, e ▸ h2⟩
theorem line_at {T : List UInt8} {f i : Nat} (hfi : f ≤ i) (hi : i < T.length) (hn : ∀ q, f ≤ q → q < i → T.getD q 0 ≠ 10) (h10 : T.getD i 0 = 10) : T.drop f ≠ [] ∧ lineOf (T.drop f) = (T.take i).drop f ∧ restOf (T.drop f) = T.drop (i + 1) := by
  have e : T.drop f = (T.take i).drop f ++ 10 :: T.drop (i + 1) := by
    rw [← h10, ← drop_at hi]
    rw [List.drop_take]
    conv => lhs; rw [← List.take_append_drop (i - f) (T.drop f)]
    rw [List.drop_drop, show f + (i - f) = i by omega]
  have hh := line_app (a := (T.take i).drop f) (fun c hc => by
    obtain ⟨k, hk, ek⟩ := List.getElem_of_mem hc
    rw [List.length_drop, List.length_take] at hk
    rw [← ek, List.getElem_drop, List.getElem_take]
    have := hn (f + k) (by omega) (by omega)
    rwa [List.getD, List.getElem?_eq_getElem (by omega)] at this) (T.drop (i + 1))
  rw [← e] at hh
  exact ⟨by rw [e]; simp, hh.1, hh.2⟩
theorem line_end {T : List UInt8} {f i : Nat} (hf : f < T.length) (hi : i = T.length) (hn : ∀ q, f ≤ q → q < i → T.getD q 0 ≠ 10) : T.drop f ≠ [] ∧ lineOf (T.drop f) = (T.take i).drop f ∧ restOf (T.drop f) = T.drop (i + 1) := by
  have hh := line_all (a := T.drop f) (fun c hc => by
    obtain ⟨k, hk, ek⟩ := List.getElem_of_mem hc
    rw [List.length_drop] at hk
    rw [← ek, List.getElem_drop]
    have := hn (f + k) (by omega) (by omega)
    rwa [List.getD, List.getElem?_eq_getElem (by omega)] at this)
  refine ⟨by rw [drop_at hf]; simp, ?_, ?_⟩
  · rw [hh.1, List.take_of_length_le (by omega)]
  · rw [hh.2, List.drop_eq_nil_of_le (by omega)]
section
variable {h h2 : Hdr} {so : Option Addr} {n c : Nat}
theorem SBox.putH (A : SBox w g (scOf h so n c)) (h2 : Hdr) : ∃ w1, (stHd (.pointer (some ⟨g, 0, none⟩)) (.agg (HdC h2))).run Tryd.prog w = .ok () w1 ∧ SBox w1 g (scOf h2 so n c) ∧ KG w w1 g := by
  have hc : ∀ j, j < 6 → (w.cell? ⟨g, 0 + j, none⟩).isSome = true ∧ w.frozen? ⟨g, 0 + j, none⟩ = false := by
    intro j hj
    unfold SBox at A
    refine ⟨?_, by simp [World.frozen?, A]⟩
    rcases (show j = 0 ∨ j = 1 ∨ j = 2 ∨ j = 3 ∨ j = 4 ∨ j = 5 by omega) with rfl | rfl | rfl | rfl | rfl | rfl <;> simp [World.cell?, A, SC, scOf]
  have hs := run_storeAt_mid (P := Tryd.prog) w g 0 23 (HdC h2) hc sizeHd (by simp [HdC, Value.oneCell'])
  refine ⟨_, hs, ?_, (((((((KG.of (Below.refl _ _) g).set 0 _).set 1 _).set 2 _).set 3 _).set 4 _).set 5 _)⟩
  have e0 := heap_setCell_same w g 0 _ _ (.int .i64 h2.reps) A
  have e1 := heap_setCell_same _ g 1 _ _ (.int .i64 h2.carts) e0
  have e2 := heap_setCell_same _ g 2 _ _ (.int .i64 h2.lines) e1
  have e3 := heap_setCell_same _ g 3 _ _ (.int .i64 h2.count) e2
  have e4 := heap_setCell_same _ g 4 _ _ (.int .i64 h2.log) e3
  have e5 := heap_setCell_same _ g 5 _ _ (.int .i64 h2.toks) e4
  exact e5
theorem SBox.put6 (A : SBox w g (scOf h so n c)) (bo : Option Addr) (m d : Nat) : SBox (w.setCell ⟨g, 6, none⟩ (.slice bo m d)) g (scOf h bo m d) ∧ w.frozen? ⟨g, 6, none⟩ = false := by
  unfold SBox at A ⊢
  refine ⟨?_, by simp [World.frozen?, A]⟩
  rw [heap_setCell_same w g _ _ _ _ A]
  rfl
end
/-- while the reference reads -/
structure Rq (w v : World) (g2 g5 : Nat) (r : Rd) (h : Hdr) (so : Option Addr) (n c : Nat) : Prop where
  x : SBox v g5 (scOf h so n c)
  z : SBox v g2 sc0
  o : OR v so n c r.ops
  e : ∀ l, r.hd = some l → h = hdL l
  k : ∀ k, blk so = some k → g5 < k
  b : Below w.heap.size w v
  h2 : w.heap.size ≤ g2
  h25 : g2 < g5
section
variable {r : Rd} {h : Hdr} {so : Option Addr} {n c g2 g5 : Nat} {v : World}
theorem Rq.below (A : Rq w v g2 g5 r h so n c) (k : Below v.heap.size v w2) : Rq w w2 g2 g5 r h so n c := ⟨A.x.below k, A.z.below k, A.o.below k, A.e, A.k, A.b.trans (k.mono A.b.size), A.h2, A.h25⟩
theorem Rq.head (A : Rq w v g2 g5 r h so n c) (l : List Int) (K : KG v w2 g5) (hx : SBox w2 g5 (scOf (hdL l) so n c)) : Rq w w2 g2 g5 ⟨some l, r.ops⟩ (hdL l) so n c := by
  have h2 := A.h2
  have h25 := A.h25
  refine ⟨hx, (K.gr.block g2 A.z.lt (by intro e; have := Option.some.inj e; omega)).trans A.z, A.o.keep fun k e => K.gr.block k (A.o.lt k e) (by intro e2; have := Option.some.inj e2; have := A.k k e; omega), fun l2 hl => by have := Option.some.inj hl; rw [this], A.k, A.b.trans (K.below (by omega) A.b.size), A.h2, A.h25⟩
theorem Rq.step (A : Rq w v g2 g5 r h so n c) {b6 : Option Addr} {q6 : Nat} {o : Sp} (R6 : OR w2 b6 (n + 1) q6 (r.ops ++ [o])) (A6 : Ap v w2 so b6) : Rq w (w2.setCell ⟨g5, 6, none⟩ (.slice b6 (n + 1) q6)) g2 g5 ⟨r.hd, r.ops ++ [o]⟩ h b6 (n + 1) q6 ∧ w2.frozen? ⟨g5, 6, none⟩ = false ∧ w2.cell? ⟨g5, 6, none⟩ = some (.slice so n c) := by
  have h2 := A.h2
  have h25 := A.h25
  have hK6 : ∀ k, blk b6 = some k → g5 < k := fun k hk => by
    rcases A6.lies with e | ⟨j, e, hj⟩
    · exact A.k k (e ▸ hk)
    · rw [e] at hk
      have h1 := Option.some.inj hk
      have h2 := A.x.lt
      omega
  have hx6 : SBox w2 g5 (scOf h so n c) := (A6.grown.block g5 A.x.lt (fun e => by have := A.k g5 e.symm; omega)).trans A.x
  have hz6 : SBox w2 g2 sc0 := (A6.grown.block g2 A.z.lt (fun e => by have := A.k g2 e.symm; omega)).trans A.z
  have hb6 : Below w.heap.size w w2 := A.b.trans ⟨A6.grown.os, A6.grown.tape, A6.grown.output, A6.grown.size, fun k hk => A6.grown.block k (by have := A.b.size; omega) (fun e => by have := A.k k e.symm; omega)⟩
  refine ⟨⟨(hx6.put6 b6 (n + 1) q6).1, (heap_setCell_other w2 _ g2 _ (by show g2 ≠ g5; omega)).trans hz6, R6.keep fun k e => heap_setCell_other w2 _ k _ (by show k ≠ g5; have := hK6 k e; omega), A.e, hK6, hb6.setCell (by show _ ≤ g5; omega) _, A.h2, A.h25⟩, (hx6.put6 b6 (n + 1) q6).2, hx6.c6⟩
end
theorem PaA.bad {a : Pr} {e : Ending} {j : Nat} (h : a = .bad j) (he : e = .returned (.tuple #[.agg (SC sc0), .int .i64 (j : Int), .int .i64 17])) : PaA w w' a e := by rw [h]; exact he
set_option maxRecDepth 100000 in
set_option maxHeartbeats 6400000 in
theorem rparse_any (T : List UInt8) (hT : T.length ≤ 100000000000) (w : World) : Calls Tryd.prog 7 #[.string (bs T)] w fun e w' => PaA w w' (parseP T) e ∧ Below w.heap.size w w' := by
  obtain ⟨w1, hw1⟩ : ∃ w1, w.alloc (.cells #[.int .i64 0, .int .i64 0, .int .i64 0, .int .i64 0, .int .i64 0, .int .i64 0, .slice none 0 0] 26) = w1 := ⟨_, rfl⟩
  have hx1 : SBox w1 w.heap.size sc0 := by rw [← hw1]; exact SBox_new w sc0
  have hb1 : Below w.heap.size w w1 := by rw [← hw1]; exact below_new _ _
  have hz1 : w1.heap.size = w.heap.size + 1 := by rw [← hw1]; simp
  obtain ⟨w2, hw2⟩ : ∃ w2, w1.alloc (.cells #[.int .i64 0, .int .i64 0, .int .i64 0, .int .i64 0, .int .i64 0, .int .i64 0, .slice none 0 0] 26) = w2 := ⟨_, rfl⟩
  have hx2 : SBox w2 w1.heap.size sc0 := by rw [← hw2]; exact SBox_new w1 sc0
  have hb2 : Below w1.heap.size w1 w2 := by rw [← hw2]; exact below_new _ _
  obtain ⟨g5, hg5⟩ : ∃ g5, w1.heap.size = g5 := ⟨_, rfl⟩
  have H0 : Hid (Rq w w2 w.heap.size g5 ⟨none, []⟩ hd0 none 0 0) := ⟨hg5 ▸ hx2, hx1.below hb2, OR.nil _, (fun l h => by cases h), (fun k h => by cases h), hb1.trans (hb2.mono hb1.size), Nat.le_refl _, by omega⟩
  obtain ⟨s, hs⟩ : ∃ s, bs T = s := ⟨_, rfl⟩
  have hsz : s.size = T.length := by rw [← hs, bs_size]
  have hsb : s.size ≤ 100000000000 := by omega
  have HZ := hide hsz
  have HG : Hid (∀ i (h : i < s.size), s[i] = T.getD i 0) := by subst hs; exact bs_get _
  have HX : Hid (∀ a b, s.extract a b = bs ((T.take b).drop a)) := by subst hs; exact bs_cut _
  rw [hs]
  clear hx1 hb1 hz1 hx2 hb2 hs hsz hT
  go_enter Tryd.func7, Tryd.ntmps7
  go_wp2_with fail
  clear hw1 hw2 hg5
  go_loopw [6, 7, 8, 9] (fun b u f z wr => ∃ (r : Rd) (h : Hdr) (so : Option Addr) (n c kk fr i : Nat) (bg : Bool), b = .bool bg ∧ u = .int .i64 (kk : Int) ∧ f = .int .i64 (fr : Int) ∧ z = .int .i64 (i : Int) ∧ i ≤ s.size + 1 ∧ fr ≤ i ∧ kk ≤ fr ∧ n ≤ kk ∧ Hid (bg = r.hd.isSome) ∧ Hid (i = s.size + 1 → fr = i) ∧ Hid (∀ q, fr ≤ q → q < i → T.getD q 0 ≠ 10) ∧ Hid (parseP T = parseT r kk (T.drop fr)) ∧ Hid (Rq w wr w.heap.size g5 r h so n c)) (fun _ _ _ z _ => s.size + 2 - (intOf z).toNat)
  case atStart => exact ⟨⟨none, []⟩, hd0, none, 0, 0, 0, 0, 0, false, rfl, rfl, rfl, rfl, by omega, by omega, by omega, by omega, rfl, (fun h => by omega), (fun q h1 h2 => by omega), rfl, H0⟩
  case round =>
    clear H0
    obtain ⟨r, h, so, n, c, kk, fr, i, bg, rfl, rfl, rfl, rfl, hi, hfr, hkf, hnk, Hbg, Hend, HN, HP, HQ⟩ := hrel
    by_cases hle : i ≤ s.size
    · have hleI : (i : Int) ≤ s.size := by omega
      by_cases hlt : i < s.size
      · have hltI : (i : Int) < s.size := by omega
        obtain ⟨x, hx⟩ : ∃ x, s[i] = x := ⟨_, rfl⟩
        have hxT : T.getD i 0 = x := by rw [← hx, HG.out i hlt]
        by_cases h10 : x = 10
        · have n10 : ((x.toNat : Int) != 10) = false := by rw [h10]; rfl
          have nes : ((i : Int) == s.size) = false := by rw [beq_eq_false_iff_ne]; omega
          have hLn := line_at hfr (by have := HZ.out; omega) HN.out (hxT.trans h10)
          have hfs : fr ≤ s.size := by omega
          clear h10 hxT HN Hend
          obtain ⟨L0, hL0⟩ : ∃ L0, (T.take i).drop fr = L0 := ⟨_, rfl⟩
          have hx1 : s.extract fr i = bs L0 := by rw [HX.out, hL0]
          have hLl : L0.length ≤ 100000000000 := by rw [← hL0, List.length_drop, List.length_take]; have := HZ.out; omega
          rw [hL0] at hLn
          obtain ⟨j, hj⟩ : ∃ j, kk + 1 = j := ⟨_, rfl⟩
          have ej : (kk : Int) + 1 = (j : Int) := by omega
          obtain ⟨i1, hi1⟩ : ∃ i1, i + 1 = i1 := ⟨_, rfl⟩
          have ei : (i : Int) + 1 = (i1 : Int) := by omega
          have HPg : Hid (∀ r', takeP r L0 = some r' → parseP T = parseT r' j (T.drop i1)) := fun r' hr' => by rw [HP.out, parseT_go hLn.1 (by rw [hLn.2.1]; exact hr'), hLn.2.2, hj, hi1]
          have HPb : Hid (takeP r L0 = none → parseP T = .bad j) := fun hr' => by rw [HP.out, parseT_bad hLn.1 (by rw [hLn.2.1]; exact hr'), hj]
          have hfI : (fr : Int) ≤ (i : Int) := by omega
          have HA : Hid (i1 ≤ s.size + 1 ∧ j ≤ i1 ∧ n + 1 ≤ j ∧ n ≤ 100000000002 ∧ s.size + 2 - i1 < s.size + 2 - i) := by show _ ∧ _; omega
          have hkb : kk ≤ 100000000002 := by omega
          have HSil := hide (silent_any L0 hLl wr)
          have HCut := hide (rcut_any L0 (by omega) wr)
          have Hj := hide hj
          have Hi1 := hide hi1
          clear hL0 hLn hj hi1 HP hfr hkf hnk
          cases hsy : saysL L0 with
          | false =>
            rw [hsy] at HSil
            have HE : Hid (parseP T = parseT r j (T.drop i1)) := HPg.out r (by unfold takeP; rw [says_no hsy])
            clear hsy HPg HPb HCut
            go_wp2_with fail
            (try rw [hx1])
            refine HSil.out.mono ?_
            rintro e w3 ⟨rfl, rfl⟩
            clear HSil
            go_wp2_with fail
            go_roundw
            case rel => exact ⟨r, h, so, n, c, j, i1, i1, bg, rfl, rfl, rfl, rfl, HA.out.1, Nat.le_refl _, HA.out.2.1, by have := HA.out.2.2.1; omega, Hbg, (fun _ => rfl), (fun q h1 h2 => by omega), HE, HQ⟩
            case measure => simp [intOf]; exact HA.out.2.2.2.2
          | true =>
            rw [hsy] at HSil
            obtain ⟨hcp, hcn⟩ := says_cut hsy
            cases hc : cutR L0 with
            | none =>
              rw [hc] at HCut hcp
              have HE : Hid (parseP T = .bad j) := HPb.out (by unfold takeP; rw [hcp])
              clear hsy HPg HPb hcp hcn hc
              go_wp2_with fail
              (try rw [hx1])
              refine HSil.out.mono ?_
              rintro e w3 ⟨rfl, rfl⟩
              clear HSil
              go_wp2_with fail
              (try rw [hx1])
              refine HCut.out.mono ?_
              rintro e w4 ⟨he4, b4⟩
              obtain rfl : e = _ := he4
              have HQ4 := hide (HQ.out.below b4)
              obtain ⟨w7, hst7, hx7, k7⟩ := sc_put (o := sc0) HQ4.out.z
              have hst7' : (stS (.pointer (some ⟨w.heap.size, 0, none⟩)) (.agg #[.int .i64 0, .int .i64 0, .int .i64 0, .int .i64 0, .int .i64 0, .int .i64 0, .slice none 0 0])).run Tryd.prog w4 = .ok () w7 := hst7
              have HX7 := hide hx7
              have HB7 : Hid (Below w.heap.size w w7) := HQ4.out.b.trans (k7.below (Nat.le_refl _) HQ4.out.b.size)
              clear hst7 hx7 k7
              clear HCut b4
              go_wp2_with fail
              exact bodyPost_ret (res3S Tryd.results7 rfl rfl rfl HX7.out) rfl ⟨PaA.bad HE.out rfl, HB7.out⟩
            | some ws =>
              rw [hc] at HCut hcp hcn
              have hbd := cutP_bound hcp
              obtain ⟨w0, ws2, hws⟩ : ∃ w0 ws2, ws = w0 :: ws2 := by
                cases ws with
                | nil => exact absurd rfl hcn
                | cons a b => exact ⟨a, b, rfl⟩
              have HZb : Hid (∀ bo m d v, SR v bo m d (ws.map bs) → m ≤ 1000000000000) := fun bo m d v hR => by
                have h1 := hR.len
                rw [List.length_map] at h1
                omega
              have HWb : Hid (∀ l ∈ ws, l.length ≤ 1000000000000) := fun l hl => by have := hbd.2 l hl; omega
              cases hh : r.hd with
              | none =>
                have hbg : bg = false := by rw [Hbg.out, hh]; rfl
                have HT : Hid (takeP r L0 = (headP ws).map fun h => ⟨some h, r.ops⟩) := by show _ = _; unfold takeP; rw [hcp, hws]; simp only; rw [hh]
                have HH : Hid (∀ bo m d v, SR v bo m d (ws.map bs) → Calls Tryd.prog 19 #[.slice bo m d] v fun e w' => HdA ws e ∧ Below v.heap.size v w') := fun bo m d v hR => rhead_any bo m d ws v hR (HZb.out bo m d v hR) HWb.out
                unfold HdA at HH
                clear hsy hcp hcn hc hbd hws hh Hbg
                subst hbg
                obtain ⟨hv, hhv⟩ : ∃ hv, hdL ((headP ws).getD []) = hv := ⟨_, rfl⟩
                cases hq : headP ws with
                | none =>
                  rw [hq] at HT HH hhv
                  rw [hhv] at HH
                  have HE : Hid (parseP T = .bad j) := HPb.out (by rw [HT.out]; rfl)
                  clear hq HPg HPb hhv
                  go_wp2_with fail
                  (try rw [hx1])
                  refine HSil.out.mono ?_
                  rintro e w3 ⟨rfl, rfl⟩
                  clear HSil
                  go_wp2_with fail
                  (try rw [hx1])
                  refine HCut.out.mono ?_
                  rintro e w4 ⟨he4, b4⟩
                  obtain ⟨bo, m, d, rfl, hR4, -⟩ := CutA.yes he4
                  have HQ4 := hide (HQ.out.below b4)
                  have HH4 := hide (HH.out bo m d w4 hR4)
                  clear HCut b4 he4 hR4 HH
                  go_wp2_with fail
                  refine HH4.out.mono ?_
                  rintro e w5 ⟨rfl, b5⟩
                  clear HH4
                  obtain ⟨w6, hst6, hx6, b6, -⟩ := madeHd w5 hv w5.heap.size rfl
                  have hst6' : (stHd (.pointer (some ⟨w5.heap.size, 0, none⟩)) (.agg (HdC hv))).run Tryd.prog (w5.alloc (.cells #[.int .i64 0, .int .i64 0, .int .i64 0, .int .i64 0, .int .i64 0, .int .i64 0] 23)) = .ok () w6 := hst6
                  have HQ6 := hide ((HQ4.out.below b5).below b6)
                  obtain ⟨w7, hst7, hx7, k7⟩ := sc_put (o := sc0) HQ6.out.z
                  have hst7' : (stS (.pointer (some ⟨w.heap.size, 0, none⟩)) (.agg #[.int .i64 0, .int .i64 0, .int .i64 0, .int .i64 0, .int .i64 0, .int .i64 0, .slice none 0 0])).run Tryd.prog w6 = .ok () w7 := hst7
                  have HX7 := hide hx7
                  have HB7 : Hid (Below w.heap.size w w7) := HQ6.out.b.trans (k7.below (Nat.le_refl _) HQ6.out.b.size)
                  clear hst7 hx7 k7
                  clear hx6 b6 b5 hst6
                  go_wp2_with fail
                  exact bodyPost_ret (res3S Tryd.results7 rfl rfl rfl HX7.out) rfl ⟨PaA.bad HE.out rfl, HB7.out⟩
                | some hd =>
                  rw [hq] at HT HH hhv
                  rw [hhv] at HH
                  have hhd : hdL hd = hv := hhv
                  have HE : Hid (parseP T = parseT ⟨some hd, r.ops⟩ j (T.drop i1)) := HPg.out _ (by rw [HT.out]; rfl)
                  clear hq HPg HPb hhv
                  go_wp2_with fail
                  (try rw [hx1])
                  refine HSil.out.mono ?_
                  rintro e w3 ⟨rfl, rfl⟩
                  clear HSil
                  go_wp2_with fail
                  (try rw [hx1])
                  refine HCut.out.mono ?_
                  rintro e w4 ⟨he4, b4⟩
                  obtain ⟨bo, m, d, rfl, hR4, -⟩ := CutA.yes he4
                  have HQ4 := hide (HQ.out.below b4)
                  have HH4 := hide (HH.out bo m d w4 hR4)
                  clear HCut b4 he4 hR4 HH
                  go_wp2_with fail
                  refine HH4.out.mono ?_
                  rintro e w5 ⟨rfl, b5⟩
                  clear HH4
                  obtain ⟨w6, hst6, hx6, b6, -⟩ := madeHd w5 hv w5.heap.size rfl
                  have hst6' : (stHd (.pointer (some ⟨w5.heap.size, 0, none⟩)) (.agg (HdC hv))).run Tryd.prog (w5.alloc (.cells #[.int .i64 0, .int .i64 0, .int .i64 0, .int .i64 0, .int .i64 0, .int .i64 0] 23)) = .ok () w6 := hst6
                  have hld6 := run_ldHd hx6
                  have HQ6 := hide ((HQ4.out.below b5).below b6)
                  obtain ⟨w7, hst7, hx7, k7⟩ := HQ6.out.x.putH hv
                  have HQ7 : Hid (Rq w w7 w.heap.size g5 ⟨some hd, r.ops⟩ (hdL hd) so n c) := HQ6.out.head hd k7 (by rw [hhd]; exact hx7)
                  clear hx6 b6 b5 hst6 hx7 k7
                  go_wp2_with fail
                  go_roundw
                  case rel => exact ⟨⟨some hd, r.ops⟩, hdL hd, so, n, c, j, i1, i1, true, rfl, rfl, rfl, rfl, HA.out.1, Nat.le_refl _, HA.out.2.1, by have := HA.out.2.2.1; omega, rfl, (fun _ => rfl), (fun q h1 h2 => by omega), HE, HQ7⟩
                  case measure => simp [intOf]; exact HA.out.2.2.2.2
              | some hd =>
                have hbg : bg = true := by rw [Hbg.out, hh]; rfl
                have Hhh := hide hh
                have HT : Hid (takeP r L0 = (stepP ws).map fun o => ⟨some hd, r.ops ++ [o]⟩) := by show _ = _; unfold takeP; rw [hcp, hws]; simp only; rw [hh]
                have HH : Hid (∀ bo m d v, SR v bo m d (ws.map bs) → Calls Tryd.prog 20 #[.slice bo m d] v fun e w' => StA ws e ∧ Below v.heap.size v w') := fun bo m d v hR => rstep_any bo m d ws v hR (HZb.out bo m d v hR) HWb.out
                unfold StA at HH
                clear hsy hcp hcn hc hbd hws hh Hbg
                subst hbg
                obtain ⟨o, ho⟩ : ∃ o, (stepP ws).getD sp0 = o := ⟨_, rfl⟩
                cases hq : stepP ws with
                | none =>
                  rw [hq] at HT HH ho
                  rw [ho] at HH
                  have HE : Hid (parseP T = .bad j) := HPb.out (by rw [HT.out]; rfl)
                  clear hq HPg HPb ho
                  go_wp2_with fail
                  (try rw [hx1])
                  refine HSil.out.mono ?_
                  rintro e w3 ⟨rfl, rfl⟩
                  clear HSil
                  go_wp2_with fail
                  (try rw [hx1])
                  refine HCut.out.mono ?_
                  rintro e w4 ⟨he4, b4⟩
                  obtain ⟨bo, m, d, rfl, hR4, -⟩ := CutA.yes he4
                  have HQ4 := hide (HQ.out.below b4)
                  have HH4 := hide (HH.out bo m d w4 hR4)
                  clear HCut b4 he4 hR4 HH
                  go_wp2_with fail
                  refine HH4.out.mono ?_
                  rintro e w5 ⟨rfl, b5⟩
                  clear HH4
                  obtain ⟨w6, hst6, hx6, b6, -⟩ := madeO w5 o w5.heap.size rfl
                  have hst6' : (stO (.pointer (some ⟨w5.heap.size, 0, none⟩)) (.agg (OC o))).run Tryd.prog (w5.alloc (.cells #[.int .i64 0, .int .i64 0, .int .i64 0, .int .i64 0, .string ⟨#[]⟩, .int .i64 0, .int .i64 0] 31)) = .ok () w6 := hst6
                  have HQ6 := hide ((HQ4.out.below b5).below b6)
                  obtain ⟨w7, hst7, hx7, k7⟩ := sc_put (o := sc0) HQ6.out.z
                  have hst7' : (stS (.pointer (some ⟨w.heap.size, 0, none⟩)) (.agg #[.int .i64 0, .int .i64 0, .int .i64 0, .int .i64 0, .int .i64 0, .int .i64 0, .slice none 0 0])).run Tryd.prog w6 = .ok () w7 := hst7
                  have HX7 := hide hx7
                  have HB7 : Hid (Below w.heap.size w w7) := HQ6.out.b.trans (k7.below (Nat.le_refl _) HQ6.out.b.size)
                  clear hst7 hx7 k7
                  clear hx6 b6 b5 hst6
                  go_wp2_with fail
                  exact bodyPost_ret (res3S Tryd.results7 rfl rfl rfl HX7.out) rfl ⟨PaA.bad HE.out rfl, HB7.out⟩
                | some o2 =>
                  rw [hq] at HT HH ho
                  rw [ho] at HH
                  have e2 : o2 = o := ho
                  rw [e2] at HT
                  have HE : Hid (parseP T = parseT ⟨r.hd, r.ops ++ [o]⟩ j (T.drop i1)) := HPg.out _ (by rw [HT.out, Hhh.out]; rfl)
                  clear hq HPg HPb ho e2
                  go_wp2_with fail
                  (try rw [hx1])
                  refine HSil.out.mono ?_
                  rintro e w3 ⟨rfl, rfl⟩
                  clear HSil
                  go_wp2_with fail
                  (try rw [hx1])
                  refine HCut.out.mono ?_
                  rintro e w4 ⟨he4, b4⟩
                  obtain ⟨bo, m, d, rfl, hR4, -⟩ := CutA.yes he4
                  have HQ4 := hide (HQ.out.below b4)
                  have HH4 := hide (HH.out bo m d w4 hR4)
                  clear HCut b4 he4 hR4 HH
                  go_wp2_with fail
                  refine HH4.out.mono ?_
                  rintro e w5 ⟨rfl, b5⟩
                  clear HH4
                  obtain ⟨w6, hst6, hx6, b6, -⟩ := madeO w5 o w5.heap.size rfl
                  have hst6' : (stO (.pointer (some ⟨w5.heap.size, 0, none⟩)) (.agg (OC o))).run Tryd.prog (w5.alloc (.cells #[.int .i64 0, .int .i64 0, .int .i64 0, .int .i64 0, .string ⟨#[]⟩, .int .i64 0, .int .i64 0] 31)) = .ok () w6 := hst6
                  have hld6 := run_ldO hx6
                  have HQ6 := hide ((HQ4.out.below b5).below b6)
                  have u6 := HQ6.out.x.c6
                  have hnb := HA.out.2.2.2.1
                  clear hx6 b6 b5 hst6
                  go_wp2_with (at_builtin; refine HQ6.out.o.app (L := [o]) (m := 1) (cs := OC o) rfl (OR_one_lit o) (by omega) rfl (.tmp 84) (.tmp 86) rfl rfl rfl ?_; intro b8 q8 w8 R8 A8; obtain ⟨hq8, f8, c8⟩ := HQ6.out.step R8 A8; have HQ8 := hide hq8; clear R8 A8 hq8)
                  go_roundw
                  case rel => exact ⟨⟨r.hd, r.ops ++ [o]⟩, h, b8, n + 1, q8, j, i1, i1, true, rfl, rfl, rfl, rfl, HA.out.1, Nat.le_refl _, HA.out.2.1, HA.out.2.2.1, (by show _ = _; rw [Hhh.out]; rfl), (fun _ => rfl), (fun q h1 h2 => by omega), HE, HQ8⟩
                  case measure => simp [intOf]; exact HA.out.2.2.2.2
        · have n10 : ((x.toNat : Int) != 10) = true := (byteF 10 h10).2.1
          have HN2 : Hid (∀ q, fr ≤ q → q < i + 1 → T.getD q 0 ≠ 10) := fun q h1 h2 => by
            by_cases hqi : q = i
            · subst hqi; rw [hxT]; exact h10
            · exact HN.out q h1 (by omega)
          clear h10 hxT HN
          go_wp2_with fail
          go_roundw
          case rel => exact ⟨r, h, so, n, c, kk, fr, i + 1, bg, rfl, rfl, rfl, by go_num, by omega, by omega, by omega, by omega, Hbg, (fun h => by omega), HN2, HP, HQ⟩
          case measure => simp [intOf]; omega
      · have hltI : ¬ (i : Int) < s.size := by omega
        have hieq : i = s.size := by omega
        have nes : ((i : Int) == s.size) = true := by rw [beq_iff_eq]; omega
        by_cases hfe : fr = s.size
        · have fes : ((fr : Int) == s.size) = true := by rw [beq_iff_eq]; omega
          have HP2 : Hid (parseP T = parseT r kk []) := by show _ = _; rw [HP.out, List.drop_eq_nil_of_le (by have := HZ.out; omega)]
          clear hfe hieq HP
          cases hh : r.hd with
          | none =>
            have hbg : bg = false := by rw [Hbg.out, hh]; rfl
            obtain ⟨j, hj⟩ : ∃ j, kk + 1 = j := ⟨_, rfl⟩
            have ej : (kk : Int) + 1 = (j : Int) := by omega
            have HE : Hid (parseP T = .bad j) := by show _ = _; rw [HP2.out, parseT_nil, hh, ← hj]
            obtain ⟨w7, hst7, hx7, k7⟩ := sc_put (o := sc0) HQ.out.z
            have hst7' : (stS (.pointer (some ⟨w.heap.size, 0, none⟩)) (.agg #[.int .i64 0, .int .i64 0, .int .i64 0, .int .i64 0, .int .i64 0, .int .i64 0, .slice none 0 0])).run Tryd.prog wr = .ok () w7 := hst7
            have HX7 := hide hx7
            have HB7 : Hid (Below w.heap.size w w7) := HQ.out.b.trans (k7.below (Nat.le_refl _) HQ.out.b.size)
            clear hst7 hx7 k7
            have hkb : kk ≤ 100000000002 := by omega
            subst hbg
            clear hh hj HP2 Hbg
            go_wp2_with fail
            exact bodyPost_ret (res3S Tryd.results7 rfl rfl rfl HX7.out) rfl ⟨PaA.bad HE.out rfl, HB7.out⟩
          | some hd =>
            have hbg : bg = true := by rw [Hbg.out, hh]; rfl
            have HE : Hid (parseP T = .ok hd r.ops) := by show _ = _; rw [HP2.out, parseT_nil, hh]
            have hld := run_ldS HQ.out.x
            obtain ⟨w7, hst7, hx7, k7⟩ := sc_put (o := scOf h so n c) HQ.out.z
            have HX7 := hide hx7
            have HB7 : Hid (Below w.heap.size w w7) := HQ.out.b.trans (k7.below (Nat.le_refl _) HQ.out.b.size)
            have Hh := hide (HQ.out.e hd hh)
            have HO7 : Hid (OR w7 so n c r.ops) := HQ.out.o.keep fun k e => k7.gr.block k (HQ.out.o.lt k e) (by intro e2; have h1 := Option.some.inj e2; have h2 := HQ.out.k k e; have := HQ.out.h25; omega)
            have HF : Hid (∀ k, blk so = some k → w.heap.size ≤ k) := fun k e => by have h2 := HQ.out.k k e; have := HQ.out.h25; omega
            subst hbg
            clear hx7 k7 hh HP2 Hbg
            go_wp2_with fail
            refine bodyPost_ret (res3S Tryd.results7 rfl rfl rfl HX7.out) rfl ⟨?_, HB7.out⟩
            rw [HE.out]
            exact ⟨so, n, c, by rw [← Hh.out]; rfl, HO7.out, HF.out⟩
        · have fes : ((fr : Int) == s.size) = false := by rw [beq_eq_false_iff_ne]; omega
          have hLn := line_end (f := fr) (i := i) (by have := HZ.out; omega) (by have := HZ.out; omega) HN.out
          have hfs : fr ≤ s.size := by omega
          clear hfe HN Hend hieq
          obtain ⟨L0, hL0⟩ : ∃ L0, (T.take i).drop fr = L0 := ⟨_, rfl⟩
          have hx1 : s.extract fr i = bs L0 := by rw [HX.out, hL0]
          have hLl : L0.length ≤ 100000000000 := by rw [← hL0, List.length_drop, List.length_take]; have := HZ.out; omega
          rw [hL0] at hLn
          obtain ⟨j, hj⟩ : ∃ j, kk + 1 = j := ⟨_, rfl⟩
          have ej : (kk : Int) + 1 = (j : Int) := by omega
          obtain ⟨i1, hi1⟩ : ∃ i1, i + 1 = i1 := ⟨_, rfl⟩
          have ei : (i : Int) + 1 = (i1 : Int) := by omega
          have HPg : Hid (∀ r', takeP r L0 = some r' → parseP T = parseT r' j (T.drop i1)) := fun r' hr' => by rw [HP.out, parseT_go hLn.1 (by rw [hLn.2.1]; exact hr'), hLn.2.2, hj, hi1]
          have HPb : Hid (takeP r L0 = none → parseP T = .bad j) := fun hr' => by rw [HP.out, parseT_bad hLn.1 (by rw [hLn.2.1]; exact hr'), hj]
          have hfI : (fr : Int) ≤ (i : Int) := by omega
          have HA : Hid (i1 ≤ s.size + 1 ∧ j ≤ i1 ∧ n + 1 ≤ j ∧ n ≤ 100000000002 ∧ s.size + 2 - i1 < s.size + 2 - i) := by show _ ∧ _; omega
          have hkb : kk ≤ 100000000002 := by omega
          have HSil := hide (silent_any L0 hLl wr)
          have HCut := hide (rcut_any L0 (by omega) wr)
          have Hj := hide hj
          have Hi1 := hide hi1
          clear hL0 hLn hj hi1 HP hfr hkf hnk
          cases hsy : saysL L0 with
          | false =>
            rw [hsy] at HSil
            have HE : Hid (parseP T = parseT r j (T.drop i1)) := HPg.out r (by unfold takeP; rw [says_no hsy])
            clear hsy HPg HPb HCut
            go_wp2_with fail
            (try rw [hx1])
            refine HSil.out.mono ?_
            rintro e w3 ⟨rfl, rfl⟩
            clear HSil
            go_wp2_with fail
            go_roundw
            case rel => exact ⟨r, h, so, n, c, j, i1, i1, bg, rfl, rfl, rfl, rfl, HA.out.1, Nat.le_refl _, HA.out.2.1, by have := HA.out.2.2.1; omega, Hbg, (fun _ => rfl), (fun q h1 h2 => by omega), HE, HQ⟩
            case measure => simp [intOf]; exact HA.out.2.2.2.2
          | true =>
            rw [hsy] at HSil
            obtain ⟨hcp, hcn⟩ := says_cut hsy
            cases hc : cutR L0 with
            | none =>
              rw [hc] at HCut hcp
              have HE : Hid (parseP T = .bad j) := HPb.out (by unfold takeP; rw [hcp])
              clear hsy HPg HPb hcp hcn hc
              go_wp2_with fail
              (try rw [hx1])
              refine HSil.out.mono ?_
              rintro e w3 ⟨rfl, rfl⟩
              clear HSil
              go_wp2_with fail
              (try rw [hx1])
              refine HCut.out.mono ?_
              rintro e w4 ⟨he4, b4⟩
              obtain rfl : e = _ := he4
              have HQ4 := hide (HQ.out.below b4)
              obtain ⟨w7, hst7, hx7, k7⟩ := sc_put (o := sc0) HQ4.out.z
              have hst7' : (stS (.pointer (some ⟨w.heap.size, 0, none⟩)) (.agg #[.int .i64 0, .int .i64 0, .int .i64 0, .int .i64 0, .int .i64 0, .int .i64 0, .slice none 0 0])).run Tryd.prog w4 = .ok () w7 := hst7
              have HX7 := hide hx7
              have HB7 : Hid (Below w.heap.size w w7) := HQ4.out.b.trans (k7.below (Nat.le_refl _) HQ4.out.b.size)
              clear hst7 hx7 k7
              clear HCut b4
              go_wp2_with fail
              exact bodyPost_ret (res3S Tryd.results7 rfl rfl rfl HX7.out) rfl ⟨PaA.bad HE.out rfl, HB7.out⟩
            | some ws =>
              rw [hc] at HCut hcp hcn
              have hbd := cutP_bound hcp
              obtain ⟨w0, ws2, hws⟩ : ∃ w0 ws2, ws = w0 :: ws2 := by
                cases ws with
                | nil => exact absurd rfl hcn
                | cons a b => exact ⟨a, b, rfl⟩
              have HZb : Hid (∀ bo m d v, SR v bo m d (ws.map bs) → m ≤ 1000000000000) := fun bo m d v hR => by
                have h1 := hR.len
                rw [List.length_map] at h1
                omega
              have HWb : Hid (∀ l ∈ ws, l.length ≤ 1000000000000) := fun l hl => by have := hbd.2 l hl; omega
              cases hh : r.hd with
              | none =>
                have hbg : bg = false := by rw [Hbg.out, hh]; rfl
                have HT : Hid (takeP r L0 = (headP ws).map fun h => ⟨some h, r.ops⟩) := by show _ = _; unfold takeP; rw [hcp, hws]; simp only; rw [hh]
                have HH : Hid (∀ bo m d v, SR v bo m d (ws.map bs) → Calls Tryd.prog 19 #[.slice bo m d] v fun e w' => HdA ws e ∧ Below v.heap.size v w') := fun bo m d v hR => rhead_any bo m d ws v hR (HZb.out bo m d v hR) HWb.out
                unfold HdA at HH
                clear hsy hcp hcn hc hbd hws hh Hbg
                subst hbg
                obtain ⟨hv, hhv⟩ : ∃ hv, hdL ((headP ws).getD []) = hv := ⟨_, rfl⟩
                cases hq : headP ws with
                | none =>
                  rw [hq] at HT HH hhv
                  rw [hhv] at HH
                  have HE : Hid (parseP T = .bad j) := HPb.out (by rw [HT.out]; rfl)
                  clear hq HPg HPb hhv
                  go_wp2_with fail
                  (try rw [hx1])
                  refine HSil.out.mono ?_
                  rintro e w3 ⟨rfl, rfl⟩
                  clear HSil
                  go_wp2_with fail
                  (try rw [hx1])
                  refine HCut.out.mono ?_
                  rintro e w4 ⟨he4, b4⟩
                  obtain ⟨bo, m, d, rfl, hR4, -⟩ := CutA.yes he4
                  have HQ4 := hide (HQ.out.below b4)
                  have HH4 := hide (HH.out bo m d w4 hR4)
                  clear HCut b4 he4 hR4 HH
                  go_wp2_with fail
                  refine HH4.out.mono ?_
                  rintro e w5 ⟨rfl, b5⟩
                  clear HH4
                  obtain ⟨w6, hst6, hx6, b6, -⟩ := madeHd w5 hv w5.heap.size rfl
                  have hst6' : (stHd (.pointer (some ⟨w5.heap.size, 0, none⟩)) (.agg (HdC hv))).run Tryd.prog (w5.alloc (.cells #[.int .i64 0, .int .i64 0, .int .i64 0, .int .i64 0, .int .i64 0, .int .i64 0] 23)) = .ok () w6 := hst6
                  have HQ6 := hide ((HQ4.out.below b5).below b6)
                  obtain ⟨w7, hst7, hx7, k7⟩ := sc_put (o := sc0) HQ6.out.z
                  have hst7' : (stS (.pointer (some ⟨w.heap.size, 0, none⟩)) (.agg #[.int .i64 0, .int .i64 0, .int .i64 0, .int .i64 0, .int .i64 0, .int .i64 0, .slice none 0 0])).run Tryd.prog w6 = .ok () w7 := hst7
                  have HX7 := hide hx7
                  have HB7 : Hid (Below w.heap.size w w7) := HQ6.out.b.trans (k7.below (Nat.le_refl _) HQ6.out.b.size)
                  clear hst7 hx7 k7
                  clear hx6 b6 b5 hst6
                  go_wp2_with fail
                  exact bodyPost_ret (res3S Tryd.results7 rfl rfl rfl HX7.out) rfl ⟨PaA.bad HE.out rfl, HB7.out⟩
                | some hd =>
                  rw [hq] at HT HH hhv
                  rw [hhv] at HH
                  have hhd : hdL hd = hv := hhv
                  have HE : Hid (parseP T = parseT ⟨some hd, r.ops⟩ j (T.drop i1)) := HPg.out _ (by rw [HT.out]; rfl)
                  clear hq HPg HPb hhv
                  go_wp2_with fail
                  (try rw [hx1])
                  refine HSil.out.mono ?_
                  rintro e w3 ⟨rfl, rfl⟩
                  clear HSil
                  go_wp2_with fail
                  (try rw [hx1])
                  refine HCut.out.mono ?_
                  rintro e w4 ⟨he4, b4⟩
                  obtain ⟨bo, m, d, rfl, hR4, -⟩ := CutA.yes he4
                  have HQ4 := hide (HQ.out.below b4)
                  have HH4 := hide (HH.out bo m d w4 hR4)
                  clear HCut b4 he4 hR4 HH
                  go_wp2_with fail
                  refine HH4.out.mono ?_
                  rintro e w5 ⟨rfl, b5⟩
                  clear HH4
                  obtain ⟨w6, hst6, hx6, b6, -⟩ := madeHd w5 hv w5.heap.size rfl
                  have hst6' : (stHd (.pointer (some ⟨w5.heap.size, 0, none⟩)) (.agg (HdC hv))).run Tryd.prog (w5.alloc (.cells #[.int .i64 0, .int .i64 0, .int .i64 0, .int .i64 0, .int .i64 0, .int .i64 0] 23)) = .ok () w6 := hst6
                  have hld6 := run_ldHd hx6
                  have HQ6 := hide ((HQ4.out.below b5).below b6)
                  obtain ⟨w7, hst7, hx7, k7⟩ := HQ6.out.x.putH hv
                  have HQ7 : Hid (Rq w w7 w.heap.size g5 ⟨some hd, r.ops⟩ (hdL hd) so n c) := HQ6.out.head hd k7 (by rw [hhd]; exact hx7)
                  clear hx6 b6 b5 hst6 hx7 k7
                  go_wp2_with fail
                  go_roundw
                  case rel => exact ⟨⟨some hd, r.ops⟩, hdL hd, so, n, c, j, i1, i1, true, rfl, rfl, rfl, rfl, HA.out.1, Nat.le_refl _, HA.out.2.1, by have := HA.out.2.2.1; omega, rfl, (fun _ => rfl), (fun q h1 h2 => by omega), HE, HQ7⟩
                  case measure => simp [intOf]; exact HA.out.2.2.2.2
              | some hd =>
                have hbg : bg = true := by rw [Hbg.out, hh]; rfl
                have Hhh := hide hh
                have HT : Hid (takeP r L0 = (stepP ws).map fun o => ⟨some hd, r.ops ++ [o]⟩) := by show _ = _; unfold takeP; rw [hcp, hws]; simp only; rw [hh]
                have HH : Hid (∀ bo m d v, SR v bo m d (ws.map bs) → Calls Tryd.prog 20 #[.slice bo m d] v fun e w' => StA ws e ∧ Below v.heap.size v w') := fun bo m d v hR => rstep_any bo m d ws v hR (HZb.out bo m d v hR) HWb.out
                unfold StA at HH
                clear hsy hcp hcn hc hbd hws hh Hbg
                subst hbg
                obtain ⟨o, ho⟩ : ∃ o, (stepP ws).getD sp0 = o := ⟨_, rfl⟩
                cases hq : stepP ws with
                | none =>
                  rw [hq] at HT HH ho
                  rw [ho] at HH
                  have HE : Hid (parseP T = .bad j) := HPb.out (by rw [HT.out]; rfl)
                  clear hq HPg HPb ho
                  go_wp2_with fail
                  (try rw [hx1])
                  refine HSil.out.mono ?_
                  rintro e w3 ⟨rfl, rfl⟩
                  clear HSil
                  go_wp2_with fail
                  (try rw [hx1])
                  refine HCut.out.mono ?_
                  rintro e w4 ⟨he4, b4⟩
                  obtain ⟨bo, m, d, rfl, hR4, -⟩ := CutA.yes he4
                  have HQ4 := hide (HQ.out.below b4)
                  have HH4 := hide (HH.out bo m d w4 hR4)
                  clear HCut b4 he4 hR4 HH
                  go_wp2_with fail
                  refine HH4.out.mono ?_
                  rintro e w5 ⟨rfl, b5⟩
                  clear HH4
                  obtain ⟨w6, hst6, hx6, b6, -⟩ := madeO w5 o w5.heap.size rfl
                  have hst6' : (stO (.pointer (some ⟨w5.heap.size, 0, none⟩)) (.agg (OC o))).run Tryd.prog (w5.alloc (.cells #[.int .i64 0, .int .i64 0, .int .i64 0, .int .i64 0, .string ⟨#[]⟩, .int .i64 0, .int .i64 0] 31)) = .ok () w6 := hst6
                  have HQ6 := hide ((HQ4.out.below b5).below b6)
                  obtain ⟨w7, hst7, hx7, k7⟩ := sc_put (o := sc0) HQ6.out.z
                  have hst7' : (stS (.pointer (some ⟨w.heap.size, 0, none⟩)) (.agg #[.int .i64 0, .int .i64 0, .int .i64 0, .int .i64 0, .int .i64 0, .int .i64 0, .slice none 0 0])).run Tryd.prog w6 = .ok () w7 := hst7
                  have HX7 := hide hx7
                  have HB7 : Hid (Below w.heap.size w w7) := HQ6.out.b.trans (k7.below (Nat.le_refl _) HQ6.out.b.size)
                  clear hst7 hx7 k7
                  clear hx6 b6 b5 hst6
                  go_wp2_with fail
                  exact bodyPost_ret (res3S Tryd.results7 rfl rfl rfl HX7.out) rfl ⟨PaA.bad HE.out rfl, HB7.out⟩
                | some o2 =>
                  rw [hq] at HT HH ho
                  rw [ho] at HH
                  have e2 : o2 = o := ho
                  rw [e2] at HT
                  have HE : Hid (parseP T = parseT ⟨r.hd, r.ops ++ [o]⟩ j (T.drop i1)) := HPg.out _ (by rw [HT.out, Hhh.out]; rfl)
                  clear hq HPg HPb ho e2
                  go_wp2_with fail
                  (try rw [hx1])
                  refine HSil.out.mono ?_
                  rintro e w3 ⟨rfl, rfl⟩
                  clear HSil
                  go_wp2_with fail
                  (try rw [hx1])
                  refine HCut.out.mono ?_
                  rintro e w4 ⟨he4, b4⟩
                  obtain ⟨bo, m, d, rfl, hR4, -⟩ := CutA.yes he4
                  have HQ4 := hide (HQ.out.below b4)
                  have HH4 := hide (HH.out bo m d w4 hR4)
                  clear HCut b4 he4 hR4 HH
                  go_wp2_with fail
                  refine HH4.out.mono ?_
                  rintro e w5 ⟨rfl, b5⟩
                  clear HH4
                  obtain ⟨w6, hst6, hx6, b6, -⟩ := madeO w5 o w5.heap.size rfl
                  have hst6' : (stO (.pointer (some ⟨w5.heap.size, 0, none⟩)) (.agg (OC o))).run Tryd.prog (w5.alloc (.cells #[.int .i64 0, .int .i64 0, .int .i64 0, .int .i64 0, .string ⟨#[]⟩, .int .i64 0, .int .i64 0] 31)) = .ok () w6 := hst6
                  have hld6 := run_ldO hx6
                  have HQ6 := hide ((HQ4.out.below b5).below b6)
                  have u6 := HQ6.out.x.c6
                  have hnb := HA.out.2.2.2.1
                  clear hx6 b6 b5 hst6
                  go_wp2_with (at_builtin; refine HQ6.out.o.app (L := [o]) (m := 1) (cs := OC o) rfl (OR_one_lit o) (by omega) rfl (.tmp 84) (.tmp 86) rfl rfl rfl ?_; intro b8 q8 w8 R8 A8; obtain ⟨hq8, f8, c8⟩ := HQ6.out.step R8 A8; have HQ8 := hide hq8; clear R8 A8 hq8)
                  go_roundw
                  case rel => exact ⟨⟨r.hd, r.ops ++ [o]⟩, h, b8, n + 1, q8, j, i1, i1, true, rfl, rfl, rfl, rfl, HA.out.1, Nat.le_refl _, HA.out.2.1, HA.out.2.2.1, (by show _ = _; rw [Hhh.out]; rfl), (fun _ => rfl), (fun q h1 h2 => by omega), HE, HQ8⟩
                  case measure => simp [intOf]; exact HA.out.2.2.2.2
    · have hleI : ¬ (i : Int) ≤ s.size := by omega
      have HP2 : Hid (parseP T = parseT r kk []) := by show _ = _; rw [HP.out, List.drop_eq_nil_of_le (by have := HZ.out; have := Hend.out (by omega); omega)]
      clear HP
      cases hh : r.hd with
      | none =>
        have hbg : bg = false := by rw [Hbg.out, hh]; rfl
        obtain ⟨j, hj⟩ : ∃ j, kk + 1 = j := ⟨_, rfl⟩
        have ej : (kk : Int) + 1 = (j : Int) := by omega
        have HE : Hid (parseP T = .bad j) := by show _ = _; rw [HP2.out, parseT_nil, hh, ← hj]
        obtain ⟨w7, hst7, hx7, k7⟩ := sc_put (o := sc0) HQ.out.z
        have hst7' : (stS (.pointer (some ⟨w.heap.size, 0, none⟩)) (.agg #[.int .i64 0, .int .i64 0, .int .i64 0, .int .i64 0, .int .i64 0, .int .i64 0, .slice none 0 0])).run Tryd.prog wr = .ok () w7 := hst7
        have HX7 := hide hx7
        have HB7 : Hid (Below w.heap.size w w7) := HQ.out.b.trans (k7.below (Nat.le_refl _) HQ.out.b.size)
        clear hst7 hx7 k7
        have hkb : kk ≤ 100000000002 := by omega
        subst hbg
        clear hh hj HP2 Hbg
        go_wp2_with fail
        exact bodyPost_ret (res3S Tryd.results7 rfl rfl rfl HX7.out) rfl ⟨PaA.bad HE.out rfl, HB7.out⟩
      | some hd =>
        have hbg : bg = true := by rw [Hbg.out, hh]; rfl
        have HE : Hid (parseP T = .ok hd r.ops) := by show _ = _; rw [HP2.out, parseT_nil, hh]
        have hld := run_ldS HQ.out.x
        obtain ⟨w7, hst7, hx7, k7⟩ := sc_put (o := scOf h so n c) HQ.out.z
        have HX7 := hide hx7
        have HB7 : Hid (Below w.heap.size w w7) := HQ.out.b.trans (k7.below (Nat.le_refl _) HQ.out.b.size)
        have Hh := hide (HQ.out.e hd hh)
        have HO7 : Hid (OR w7 so n c r.ops) := HQ.out.o.keep fun k e => k7.gr.block k (HQ.out.o.lt k e) (by intro e2; have h1 := Option.some.inj e2; have h2 := HQ.out.k k e; have := HQ.out.h25; omega)
        have HF : Hid (∀ k, blk so = some k → w.heap.size ≤ k) := fun k e => by have h2 := HQ.out.k k e; have := HQ.out.h25; omega
        subst hbg
        clear hx7 k7 hh HP2 Hbg
        go_wp2_with fail
        refine bodyPost_ret (res3S Tryd.results7 rfl rfl rfl HX7.out) rfl ⟨?_, HB7.out⟩
        rw [HE.out]
        exact ⟨so, n, c, by rw [← Hh.out]; rfl, HO7.out, HF.out⟩
end Go.Proofs.YtocfbanbphhhbaaDoor
