/- PoolAnswers: the law. -/
import Derived.Test.YthagachlilnjpaaXPa
namespace Go.Proofs.Ythagachlilnjpaa
open Go.RowKit Go.Maps
variable {w w' w2 w0 : World} {g mb r made K c g' mb' r' made' K' c' : Nat} {M M' : Int → Option Ltr} {C C' : Int → List Int} {ao bo ao' : Option Addr} {Q Q' : List Mde}
attribute [local go_sem ↓] ldO_eq stO_eq

theorem TX.start {w1 w2 w3 : World} (b1 : Below w0.heap.size w0 w1) (P2 : Pl w2 (w1.heap.size + 1) w1.heap.size 0 0 (fun _ => none) (fun _ => [])) (b2 : Below w1.heap.size w1 w2) (P3 : Pl w3 (w2.heap.size + 1) w2.heap.size 0 0 (fun _ => none) (fun _ => [])) (b3 : Below w2.heap.size w2 w3) :
    TW w0 ((w3.alloc (.cells #[.slice none 0 0] 28)).alloc (.cells #[.slice none 0 0] 28)) (w1.heap.size + 1) w1.heap.size w3.heap.size (w2.heap.size + 1) w2.heap.size (w3.heap.size + 1) 0 := by
  have q1 := P2.g_lt
  have q2 := P3.g_lt
  have s1 := b1.size
  have s2 := b2.size
  have s3 := b3.size
  have c1 := below_new w3 (.cells #[.slice none 0 0] 28)
  have c2 := below_new (w3.alloc (.cells #[.slice none 0 0] 28)) (.cells #[.slice none 0 0] 28)
  have c12 : Below w3.heap.size w3 ((w3.alloc (.cells #[.slice none 0 0] 28)).alloc (.cells #[.slice none 0 0] 28)) := c1.trans (c2.mono c1.size)
  have u : ∀ {a b d : Nat} {k : Nat}, Us a b d none (fun _ => none) k → k = a ∨ k = b ∨ k = d := fun h => by
    rcases h with h | h | h | h | ⟨x, l, e, _⟩
    · exact Or.inl h
    · exact Or.inr (Or.inl h)
    · exact Or.inr (Or.inr h)
    · cases h
    · cases e
  refine ⟨0, 0, _, _, none, 0, [], 0, 0, _, _, none, 0, [], ⟨PX.new ((P2.below b3).below c12) ?_ ⟨by omega, by omega⟩, PX.new (P3.below c12) ?_ ⟨by omega, by omega⟩, fun k h h' => ?_, fun k h => ?_, fun k h => ?_, b1.trans ((b2.trans ((b3.trans (c12.mono b3.size)).mono b2.size)).mono b1.size)⟩, Nat.le_refl _, Nat.le_refl _, Nat.le_refl _, Nat.le_refl _⟩
  · rw [c2.block _ (by simp)]
    exact heap_alloc_new w3 _
  · have := heap_alloc_new (w3.alloc (.cells #[.slice none 0 0] 28)) (.cells #[.slice none 0 0] 28)
    rw [World.size_alloc] at this
    exact this
  · have := u h
    have := u h'
    omega
  · have := u h
    omega
  · have := u h
    omega
/-- the list of the last two steps -/
def EB (w : World) (q : Nat) : Prop := w.heap[q]? = some (.cells #[.int .i64 7, .bool false, .int .i64 0, .int .i64 0, .int .i64 0, .slice none 0 0, .int .i64 8, .bool false, .int .i64 0, .int .i64 0, .int .i64 0, .slice none 0 0] 31 (0, 0))
theorem EB.at0 {q : Nat} (E : EB w q) : OAt w ⟨q, 0, none⟩ ⟨7, false, 0, 0, 0, none, 0, 0⟩ := by
  unfold EB at E
  constructor <;> (try rw [Addr.add_lit]) <;> simp [World.cell?, E]
theorem EB.at6 {q : Nat} (E : EB w q) : OAt w ⟨q, 6, none⟩ ⟨8, false, 0, 0, 0, none, 0, 0⟩ := by
  unfold EB at E
  constructor <;> (try rw [Addr.add_lit]) <;> simp [World.cell?, E]
theorem EB.keep {q : Nat} (E : EB w q) (h : Kx w w' g mb r ao bo) (hq : ¬ Us g mb r ao M q) : EB w' q := (h.us (Array.getElem?_eq_some_iff.1 E).1 hq).trans E
theorem TX.waitE {q : Nat} (T : TX w0 w g mb r made K M C ao c Q g' mb' r' made' K' M' C' ao' c' Q') (hma : made < 3518437208880) (hK : K < 9000000000000) (E : EB w q) (hq : ¬ Us g mb r ao M q) :
    Calls Try.prog 7 #[ptr g, ptr r, .agg (OC ⟨7, false, 0, 0, 0, none, 0, 0⟩)] w fun e w' => e = .returned (.bool true) ∧ TX w0 w' g mb r made K M C ao c Q g' mb' r' made' K' M' C' ao' c' Q' ∧ EB w' q :=
  (plays_7 T.X false 0 0 0 none 0 0 i64ok0 i64ok0 hma hK [] (BS.nil_ w) (by decide)).mono fun _ _ h => ⟨h.1, (T.look h).2, E.keep h.2.2 hq⟩
theorem TX.madE {q : Nat} (T : TX w0 w g mb r made K M C ao c Q g' mb' r' made' K' M' C' ao' c' Q') (hma : made < 3518437208880) (hK : K < 9000000000000) (E : EB w q) (hq : ¬ Us g mb r ao M q) :
    Calls Try.prog 7 #[ptr g, ptr r, .agg (OC ⟨8, false, 0, 0, 0, none, 0, 0⟩)] w fun e w' => e = .returned (.bool true) ∧ TX w0 w' g mb r made K M C ao c Q g' mb' r' made' K' M' C' ao' c' Q' ∧ EB w' q :=
  (plays_8 T.X false 0 0 0 none 0 0 i64ok0 i64ok0 hma hK [] (BS.nil_ w) (by decide)).mono fun _ _ h => ⟨h.1, (T.look h).2, E.keep h.2.2 hq⟩
set_option maxRecDepth 100000 in
set_option maxHeartbeats 0 in
theorem poolAnswers_any (ao : Option Addr) (m c : Nat) (L : List Opr) (Y : Nat → List Int) (w0 : World) (S : OSrc w0 ao m c L Y) : Calls Try.prog 3 #[.slice ao m c] w0 fun r w' => r = .returned (.bool true) ∧ Below w0.heap.size w0 w' := by
  have HS := hide S
  clear S
  go_enter Try.func3, Try.ntmps3
  go_wp2_with fail
  refine (fixed_any w0).mono ?_
  rintro r w1 ⟨rfl, b1⟩
  have HB1 := hide b1
  clear b1
  go_wp2_with fail
  refine (new_any w1).mono ?_
  rintro r w2 ⟨rfl, P2, b2⟩
  have HP2 := hide (And.intro P2 b2)
  clear P2 b2
  go_wp2_with fail
  refine (new_any w2).mono ?_
  rintro r w3 ⟨rfl, P3, b3⟩
  have HI0 := hide (TX.start HB1.out HP2.out.1 HP2.out.2 P3 b3)
  clear P3 b3 HP2 HB1
  obtain ⟨g, hg⟩ : ∃ g, w1.heap.size + 1 = g := ⟨_, rfl⟩
  obtain ⟨mb, hmb⟩ : ∃ mb, w1.heap.size = mb := ⟨_, rfl⟩
  obtain ⟨g', hg'⟩ : ∃ g', w2.heap.size + 1 = g' := ⟨_, rfl⟩
  obtain ⟨mb', hmb'⟩ : ∃ mb', w2.heap.size = mb' := ⟨_, rfl⟩
  rw [hg, hg', hmb, hmb'] at HI0
  rw [hg, hg']
  clear hg hg' hmb hmb'
  go_wp2_with fail
  obtain ⟨r, hr⟩ : ∃ r, w3.heap.size = r := ⟨_, rfl⟩
  rw [hr] at HI0 ⊢
  generalize (w3.alloc (.cells #[.slice none 0 0] 28)).alloc (.cells #[.slice none 0 0] 28) = w4 at HI0 ⊢
  clear hr
  go_loopw [7] (fun i wr => ∃ k : Nat, k ≤ m ∧ i = .int .i64 k ∧ Hid (TW w0 wr g mb r g' mb' (r + 1) k)) (fun i _ => m - (intOf i).toNat)
  case atStart => exact ⟨0, Nat.zero_le _, rfl, HI0⟩
  case round =>
    clear HI0
    obtain ⟨k, hk, rfl, HI⟩ := hrel
    by_cases hlt : k < m
    · have HK1 : Hid (wrap64 ((k : Int) + 1) = ((k + 1 : Nat) : Int)) := by show _ = _; have := HS.out.big; rw [w64 (by omega) (by omega)]; rfl
      have HLT := hide hlt
      have HBD : Hid (k < 2199023255552) := by show _ < _; have := HS.out.big; omega
      have hbel : Below w0.heap.size w0 wr := by
        obtain ⟨_, _, _, _, _, _, _, _, _, _, _, _, _, _, T, _⟩ := HI.out
        exact T.bel
      obtain ⟨bb, oo, rfl, A0⟩ := (HS.out.below hbel).at k hlt
      have hE := HS.out.each k hlt
      obtain ⟨op, hop⟩ : ∃ op, L.getD k o0 = op := ⟨_, rfl⟩
      rw [hop] at A0 hE
      obtain ⟨hN, hX, SB, hon⟩ := hE
      have hld := run_laO A0
      have hc1 := A0.c1
      rw [Addr.add_lit] at hc1
      have H1 := hide (HI.out.step op hN hX HBD.out _ SB hon)
      have H2 := hide (HI.out.swap.step op hN hX HBD.out _ SB hon)
      clear hbel A0 hop hN hX SB hon HI
      obtain ⟨kd, sec, N, X, Yy, ob, on, oc⟩ := op
      simp only at hc1
      cases sec with
      | true =>
        go_wp2_with fail
        refine H2.out.mono ?_
        rintro e w5 ⟨rfl, I5⟩
        have HI5 := hide I5.swap
        clear I5 H1 H2
        go_wp2_with fail
        go_roundw
        case rel => exact ⟨k + 1, HLT.out, by rw [HK1.out], HI5⟩
        case measure => rw [HK1.out]; have := HLT.out; simp [intOf]; omega
      | false =>
        go_wp2_with fail
        refine H1.out.mono ?_
        rintro e w5 ⟨rfl, I5⟩
        have HI5 := hide I5
        clear I5 H1 H2
        go_wp2_with fail
        go_roundw
        case rel => exact ⟨k + 1, HLT.out, by rw [HK1.out], HI5⟩
        case measure => rw [HK1.out]; have := HLT.out; simp [intOf]; omega
    · obtain ⟨made, K, M, C, a1, c1, Q, made', K', M', C', a2, c2, Q', T, h1, h2, h3, h4⟩ := HI.out
      have HT := hide T
      have HBD : Hid (made ≤ 2199023255552 ∧ K ≤ 2199023255552 ∧ made' ≤ 2199023255552 ∧ K' ≤ 2199023255552) := by have := HS.out.big; exact ⟨by omega, by omega, by omega, by omega⟩
      clear T h1 h2 h3 h4 HI
      go_wp2_with fail
      clear hlt hk
      go_loopw [9] (fun i w5 => ∃ (j : Nat) (n : Int), j ≤ made + 3 ∧ i = .int .i64 n ∧ Hid (n = (j : Int) - 1) ∧ Hid (TX w0 w5 g mb r made K M C a1 c1 Q g' mb' (r + 1) made' K' M' C' a2 c2 Q')) (fun i _ => made + 3 - (intOf i + 1).toNat)
      case atStart => exact ⟨0, -1, Nat.zero_le _, rfl, rfl, HT⟩
      case round =>
        clear HT
        obtain ⟨j, n, hj, rfl, HN, HT⟩ := hrel
        have hc := HT.out.X.R.c0
        have hw1 : wrap64 ((made : Int) + 1) = (made : Int) + 1 := by have := HBD.out; rw [w64 (by omega) (by omega)]
        by_cases hlt : j < made + 3
        · have HLT := hide hlt
          have hle : n ≤ (made : Int) + 1 := by have := HN.out; omega
          have HN1 : Hid (wrap64 (n + 1) = n + 1) := by show _ = _; have := HN.out; have := HBD.out; rw [w64 (by omega) (by omega)]
          have HL := hide (HT.out.look2 (by have := HBD.out; omega) (by have := HBD.out; omega) n ⟨by have := HN.out; omega, by have := HN.out; have := HBD.out; omega⟩)
          clear hlt hj
          go_wp2_with fail
          refine HL.out.mono ?_
          rintro e w6 ⟨rfl, T6⟩
          have HT6 := hide T6
          clear T6 HL
          go_wp2_with fail
          go_roundw
          case rel => exact ⟨j + 1, _, HLT.out, rfl, by have := HN.out; have := HN1.out; show _ = _; push_cast; omega, HT6⟩
          case measure => rw [HN1.out]; have := HLT.out; have := HN.out; simp only [intOf]; omega
        · have hgt : ¬ n ≤ (made : Int) + 1 := by have := HN.out; omega
          clear hlt
          have HU : Hid (¬ Us g mb r a1 M wr.heap.size ∧ ¬ Us g' mb' (r + 1) a2 M' wr.heap.size) := ⟨fun u => absurd (HT.out.X.us_lt u) (Nat.lt_irrefl _), fun u => absurd (HT.out.X'.us_lt u) (Nat.lt_irrefl _)⟩
          obtain ⟨q, hq⟩ : ∃ q, wr.heap.size = q := ⟨_, rfl⟩
          obtain ⟨wl, hwl⟩ : ∃ wl, wr.alloc (.cells #[.int .i64 7, .bool false, .int .i64 0, .int .i64 0, .int .i64 0, .slice none 0 0, .int .i64 8, .bool false, .int .i64 0, .int .i64 0, .int .i64 0, .slice none 0 0] 31) = wl := ⟨_, rfl⟩
          have El : EB wl q := by rw [← hwl, ← hq]; exact heap_alloc_new wr _
          have HTl := hide (HT.out.below (below_new wr (.cells #[.int .i64 7, .bool false, .int .i64 0, .int .i64 0, .int .i64 0, .slice none 0 0, .int .i64 8, .bool false, .int .i64 0, .int .i64 0, .int .i64 0, .slice none 0 0] 31)))
          rw [hwl] at HTl
          rw [hq] at HU
          have ld1 := run_laO El.at0
          have H1 := hide (HTl.out.waitE (by have := HBD.out; omega) (by have := HBD.out; omega) El HU.out.1)
          clear El HTl HT
          go_wp2_with fail
          refine H1.out.mono ?_
          rintro e w6 ⟨rfl, T6, E6⟩
          have ld2 := run_laO E6.at6
          have H2 := hide (T6.madE (by have := HBD.out; omega) (by have := HBD.out; omega) E6 HU.out.1)
          clear T6 E6 H1 ld1
          go_wp2_with fail
          refine H2.out.mono ?_
          rintro e w7 ⟨rfl, T7, E7⟩
          have ld3 := run_laO E7.at0
          have H3 := hide (T7.swap.waitE (by have := HBD.out; omega) (by have := HBD.out; omega) E7 HU.out.2)
          clear T7 E7 H2 ld2
          go_wp2_with fail
          refine H3.out.mono ?_
          rintro e w8 ⟨rfl, T8, E8⟩
          have ld4 := run_laO E8.at6
          have H4 := hide (T8.madE (by have := HBD.out; omega) (by have := HBD.out; omega) E8 HU.out.2)
          clear T8 E8 H3 ld3
          go_wp2_with fail
          refine H4.out.mono ?_
          rintro e w9 ⟨rfl, T9, E9⟩
          have HB := hide T9.bel
          clear T9 E9 H4 ld4
          go_wp2_with fail
          go_ret
          exact ⟨rfl, HB.out⟩
end Go.Proofs.Ythagachlilnjpaa
