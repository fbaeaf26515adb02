/- The law's sameInts and apart. -/
import Derived.Test.YtioioagomlpmeaaDL2
namespace Go.Proofs.Ytioioagomlpmeaa
open Go.RowKit
variable {w0 w w' w2 : World} {β : Nat × Nat → Option Nat} {ao lo wo go : Option Addr} {n lc wc i gc : Nat} {F W G : List Sl} {X Y : Nat → List Int}

set_option maxRecDepth 100000 in
theorem sameInts_true (ao : Option Addr) (n c : Nat) (Y : List Int) (bo : Option Addr) (m c' : Nat) (w : World) (hY : NSrc w ao n c Y) (hZ : NSrc w bo m c' Y) (hn : n ≤ 9223372036854775807) :
    Calls Try.prog 14 #[.slice ao n c, .slice bo m c'] w fun e w' => e = .returned (.bool true) ∧ Below w.heap.size w w' := by
  obtain rfl : n = m := by rw [← hY.len, ← hZ.len]
  have HY := hide hY
  have HZ := hide hZ
  clear hY hZ
  go_enter Try.func14, Try.ntmps14
  go_wp2_with fail
  go_loopw [5] (fun i wr => ∃ k : Nat, k ≤ n ∧ i = .int .i64 k ∧ Hid (Below w.heap.size w wr)) (fun i _ => n - (intOf i).toNat)
  case atStart => exact ⟨0, Nat.zero_le _, rfl, Below.refl _ _⟩
  case round =>
    obtain ⟨k, hk, rfl, HB⟩ := hrel
    by_cases hlt : k < n
    · obtain ⟨ad, rfl, c1⟩ := (HY.out.below HB.out).at k hlt
      obtain ⟨bd, rfl, c2⟩ := (HZ.out.below HB.out).at k hlt
      obtain ⟨z, hz⟩ : ∃ z, Y.getD k 0 = z := ⟨_, rfl⟩
      rw [hz] at c1 c2
      clear hz
      go_wp2_with fail
      go_quiet (fail)
      have HB' := hide (HB.out.trans ((below_drewN wr nq).mono HB.out.size))
      clear HB
      go_wp2_with fail
      go_roundw
      case rel => exact ⟨k + 1, by omega, by go_num, HB'⟩
      case measure => simp [intOf]; omega
    · go_wp2_with fail
      go_ret
      exact ⟨rfl, HB.out⟩
theorem IR.app1K {cap : Nat} {Z : List Int} (h : IR w ao n cap Z) (x : Int) (hb : n + 1 ≤ 17592186044316)
    {ops : Array Oper} {rest : List Oper} {o : Oper} {a : Act} {Q : Exit → Act → World → Prop} (hgd : o.guard = none) (s y : Operand) (ho : o.op = .call { callee := .builtin .append, args := #[s, y], argTypes := #[34, 34] })
    (hs : a.eval s = .slice ao n cap) (hy : a.eval y = .slice (some ⟨w.heap.size, 0, none⟩) 1 1)
    (hK : ∀ (bo : Option Addr) (cap2 : Nat) (w2 : World), IR w2 bo (n + 1) cap2 (Z ++ [x]) → Ap w w2 ao bo → (bo = ao ∨ NewB w w2 bo) → wpList Try.prog ops Q rest (a.put o.dst (.slice bo (n + 1) cap2)) w2) :
    wpList Try.prog ops Q (o :: rest) a (w.alloc (.cells #[.int .i64 x] 3)) := by
  refine wpList_plain hgd fun K hKK => ?_
  obtain ⟨bo, c2, w2, hrun, h2, h3, h4⟩ := h.runsK x hb o.type
  unfold Oper.wp execOp
  simp only [ho, resolve, invoke, builtin, Sem.run_bind, Sem.run_pure, Result.andThen_ok, List.map_toArray, List.map_cons, List.map_nil, hs, hy, hrun]
  exact hKK _ _ (hK bo c2 w2 h2 h3 h4)
theorem L2.weak (h : L2 w0 w β lo n lc F X wo wc W go i gc G Y i) : L2 w0 w β lo n lc F X wo wc W go i gc G Y (i + 1) :=
  ⟨h.b, h.src, fun q hr hq => h.rows q (by omega) hq, h.so, h.ow, h.wr, h.sg, h.og, h.gr, h.yt, fun q hr hq => h.yo q (by omega) hq⟩
theorem L1.mark1 {k t fb fn fc b : Nat} {cw : Option Addr} {x : Int} (h : L1 w0 w β (some ⟨b, 0, none⟩) n lc F X wo k wc W) (hc : β (0, 3) = blk cw) (hk : k < n) (eF : fr F k = ⟨some ⟨fb, 0, none⟩, fn, fc⟩) (ht : t < fn)
    (w5 : World) (b5 : Option Addr) (c5 : Nat) (r : IR w5 b5 (t + 1) c5 ((X k).take t ++ [x])) (a : Ap w w5 cw b5) :
    w5.cell? ⟨b, k, none⟩ = some (.slice (some ⟨fb, 0, none⟩) fn fc) ∧ (∃ z, w5.cell? ⟨fb, t, none⟩ = some (.int .i64 z)) ∧ w5.frozen? ⟨fb, t, none⟩ = false ∧
      Hid (∃ X' β', L1 w0 (w5.setCell ⟨fb, t, none⟩ (.int .i64 x)) β' (some ⟨b, 0, none⟩) n lc F X' wo k wc W ∧ β' (0, 3) = blk b5 ∧ IR (w5.setCell ⟨fb, t, none⟩ (.int .i64 x)) b5 (t + 1) c5 ((X' k).take (t + 1))) := by
  have h5 := h.beside a (0, 3) hc (by decide) (by decide) (by decide) (by decide) (fun k e => r.lt k e)
  obtain ⟨b', eb, cc1, _⟩ := h5.b.out.at k hk
  obtain rfl : b = b' := by cases eb; rfl
  have eF' : F.getD k sl0 = ⟨some ⟨fb, 0, none⟩, fn, fc⟩ := eF
  rw [eF'] at cc1
  have hr := h5.rows k hk
  have hl := hr.len
  rw [eF] at hr hl
  obtain ⟨fb', e1, c1, f1, R, A⟩ := hr.put t ht x
  obtain rfl : fb = fb' := by cases e1; rfl
  refine ⟨cc1, ⟨_, c1⟩, f1, Xu X k ((X k).set t x), _, h5.set hk (by rw [eF]; exact R) (by rw [eF]; exact A), upd_at _ _ _, ?_⟩
  rw [Xu_at, take_set _ _ _ (by rw [hl]; exact ht)]
  exact r.keep fun q e => h5.b.reg.kept A (by rw [h5.b.o1 k hk, eF]) (0, 3) (ne12 (by decide)) q (by rw [upd_at]; exact e)
/-- the frame of apart: the lists' own blocks may be written -/
abbrev SF (n : Nat) (F : List Sl) : Nat → Prop := fun k => ∃ q, q < n ∧ blk (fr F q).a = some k
set_option maxRecDepth 100000 in
set_option maxHeartbeats 4000000 in
theorem apart_any (lo : Option Addr) (n lc : Nat) (F : List Sl) (X : Nat → List Int) (β : Nat × Nat → Option Nat) (w0 : World) (hb : Bs w0 w0 β lo n lc F) (hr : ∀ q, q < n → IR w0 (fr F q).a (fr F q).n (fr F q).c (X q)) (h65 : ∀ q, q < n → (fr F q).n ≤ 65) (hn : n ≤ 2200000) (b1 : β (0, 1) = none) (b3 : β (0, 3) = none) :
    Calls Try.prog 15 #[.slice lo n lc] w0 fun e w' => e = .returned (.bool true) ∧ Frm w0 w' (SF n F) := by
  have H65 := hide h65
  have HL0 : Hid (L1 w0 w0 β lo n lc F X none 0 0 [] ∧ β (0, 3) = none) := ⟨⟨hb, hr, World.ownsRow_nil _ _ _ _, b1, (fun q hq => by omega)⟩, b3⟩
  clear hb hr h65 b1 b3
  go_enter Try.func15, Try.ntmps15
  go_wp2_with fail
  go_loopw [3, 4, 6] (fun mk v i wr => ∃ (c k : Nat) (wo : Option Addr) (wc : Nat) (W : List Sl) (X : Nat → List Int) (β : Nat × Nat → Option Nat), k ≤ n ∧ mk = .int .i64 (-(c : Int)) ∧ c ≤ k * 65 ∧ v = .slice wo k wc ∧ i = .int .i64 k ∧ Hid (L1 w0 wr β lo n lc F X wo k wc W ∧ β (0, 3) = none)) (fun _ _ i _ => n - (intOf i).toNat)
  case atStart => exact ⟨0, 0, none, 0, [], X, β, Nat.zero_le _, rfl, by omega, rfl, rfl, HL0⟩
  case round =>
    clear HL0 X β
    obtain ⟨c, k, wo, wc, W, X, β, hk, rfl, hc, rfl, rfl, H⟩ := hrel
    by_cases hlt : k < n
    · obtain ⟨b, rfl, cc, -⟩ := H.out.1.b.out.at k hlt
      obtain ⟨fa, fn, fc, eF⟩ : ∃ fa fn fc, fr F k = ⟨fa, fn, fc⟩ := ⟨_, _, _, rfl⟩
      have eF' : F.getD k sl0 = ⟨fa, fn, fc⟩ := eF
      rw [eF'] at cc
      have hfn : fn ≤ 65 := by have := H65.out k hlt; rw [eF] at this; exact this
      have HF := hide eF
      have HI : Hid (L1 w0 wr β (some ⟨b, 0, none⟩) n lc F X wo k wc W ∧ β (0, 3) = blk none ∧ IR wr none 0 0 ((X k).take 0)) := ⟨H.out.1, H.out.2, IR.nil _⟩
      clear eF eF' H cc
      go_wp2_with fail
      go_loopw [3, 7, 8] (fun mk v i wr => ∃ (c t : Nat) (cw : Option Addr) (cc : Nat) (X : Nat → List Int) (β : Nat × Nat → Option Nat), t ≤ fn ∧ mk = .int .i64 (-(c : Int)) ∧ c ≤ k * 65 + t ∧ v = .slice cw t cc ∧ i = .int .i64 t ∧ Hid (L1 w0 wr β (some ⟨b, 0, none⟩) n lc F X wo k wc W ∧ β (0, 3) = blk cw ∧ IR wr cw t cc ((X k).take t))) (fun _ _ i _ => fn - (intOf i).toNat)
      case atStart => exact ⟨c, 0, none, 0, X, β, Nat.zero_le _, rfl, by omega, rfl, rfl, HI⟩
      case round =>
        clear HI X β hc
        obtain ⟨c, t, cw, cc, X, β, ht, rfl, hc, rfl, rfl, H⟩ := hrel
        obtain ⟨b', eb, ce, -⟩ := H.out.1.b.out.at k hlt
        obtain rfl : b = b' := by cases eb; rfl
        have eF' : F.getD k sl0 = ⟨fa, fn, fc⟩ := HF.out
        rw [eF'] at ce
        replace ce : wr.cell? ⟨b, k, none⟩ = some (.slice fa fn fc) := ce
        clear eF' eb
        by_cases hl2 : t < fn
        · have hrow := H.out.1.rows k hlt
          rw [HF.out] at hrow
          obtain ⟨fb, rfl, -, -, -, -⟩ := hrow.put t hl2 0
          clear hrow
          have hw : wrap64 (-(c : Int) - 1) = -(c : Int) - 1 := w64 (by omega) (by omega)
          obtain ⟨x, hx⟩ : ∃ x, -(c : Int) - 1 = x := ⟨_, rfl⟩
          rw [hx] at hw
          have HX : Hid (x = -((c + 1 : Nat) : Int)) := by show _ = _; omega
          have HC := hide H.out.2.2
          have HN : Hid (t + 1 ≤ 17592186044316) := by show _ ≤ _; omega
          have HM := hide (L1.mark1 (x := x) H.out.1 H.out.2.1 hlt HF.out hl2)
          clear H
          go_wp2_with (at_builtin; refine HC.out.app1 x HN.out rfl (.tmp 30) (.tmp 32) rfl rfl rfl ?_; intro b5 c5 w5 R5 A5; obtain ⟨d5, ⟨z5, e5⟩, f5, H5⟩ := HM.out w5 b5 c5 R5 A5; clear R5 A5 HM HC)
          go_roundw
          case rel =>
            obtain ⟨X', β', h1, h2, h3⟩ := H5.out
            exact ⟨c + 1, t + 1, b5, c5, X', β', by omega, by rw [HX.out], by omega, rfl, by go_num, h1, h2, h3⟩
          case measure => simp [intOf]; omega
        · obtain rfl : t = fn := by omega
          have HSO := hide H.out.1.so
          have HP : Hid (∀ (w5 : World) (b5 : Option Addr) (c5 : Nat), SO 34 w5 b5 (k + 1) c5 (W ++ [⟨cw, t, cc⟩]) → Ap wr w5 wo b5 → ∃ β', L1 w0 w5 β' (some ⟨b, 0, none⟩) n lc F X b5 (k + 1) c5 (W ++ [⟨cw, t, cc⟩]) ∧ β' (0, 3) = none) := fun w5 b5 c5 so a => by
            have hrl := (H.out.1.rows k hlt).len
            rw [HF.out] at hrl
            have hr := H.out.2.2
            rw [List.take_of_length_le (by rw [hrl]; exact Nat.le_refl _)] at hr
            exact H.out.1.push hr H.out.2.1 so a
          clear H
          go_wp2_with (at_builtin; refine SO.app (s := ⟨cw, t, cc⟩) HSO.out infoS Try.underlying30 (by omega) rfl (.tmp 41) (.tmp 43) rfl rfl rfl ?_; intro b5 c5 w5 so5 a5; have H5 := hide (HP.out w5 b5 c5 so5 a5); clear so5 a5 HP HSO)
          go_roundw
          case rel =>
            obtain ⟨β', h1, h2⟩ := H5.out
            exact ⟨_, k + 1, b5, c5, _, X, β', by omega, rfl, by omega, rfl, by go_num, h1, h2⟩
          case measure => simp [intOf]; omega
    · obtain rfl : k = n := by omega
      obtain ⟨β1, h1⟩ := H.out.1.l2
      have HL : Hid (L2 w0 wr β1 lo k lc F X wo wc W none 0 0 [] X 0) := h1
      clear H h1
      go_wp2_with fail
      go_loopw [3, 5, 9] (fun mk v i wr => ∃ (c q : Nat) (go : Option Addr) (gc : Nat) (G W : List Sl) (Y : Nat → List Int) (β : Nat × Nat → Option Nat), q ≤ k ∧ mk = .int .i64 (-(c : Int)) ∧ c ≤ k * 65 + q * 16 ∧ v = .slice go q gc ∧ i = .int .i64 q ∧ Hid (L2 w0 wr β lo k lc F X wo wc W go q gc G Y q)) (fun _ _ i _ => k - (intOf i).toNat)
      case atStart => exact ⟨c, 0, none, 0, [], W, X, β1, Nat.zero_le _, rfl, by omega, rfl, rfl, HL⟩
      case round =>
        clear HL hc
        obtain ⟨c, q, go, gc, G, W, Y, β, hq, rfl, hc, rfl, rfl, H⟩ := hrel
        by_cases hlt2 : q < k
        · obtain ⟨b, rfl, cc, -⟩ := H.out.b.out.at q hlt2
          obtain ⟨wb, rfl, -, -⟩ := H.out.so.at q hlt2
          obtain ⟨fa, fn, fc, eF⟩ : ∃ fa fn fc, fr F q = ⟨fa, fn, fc⟩ := ⟨_, _, _, rfl⟩
          have eF' : F.getD q sl0 = ⟨fa, fn, fc⟩ := eF
          rw [eF'] at cc
          replace cc : wr.cell? ⟨b, q, none⟩ = some (.slice fa fn fc) := cc
          have hfn : fn ≤ 65 := by have := H65.out q hlt2; rw [eF] at this; exact this
          have HF := hide eF
          have HI : Hid (L2 w0 wr β (some ⟨b, 0, none⟩) k lc F X (some ⟨wb, 0, none⟩) wc W go q gc G Y (q + 1) ∧ IR wr fa fn fc (Y q) ∧ Loc β F q fa) := by
            have hr := H.out.rows q (Nat.le_refl _) hlt2
            rw [eF, ← H.out.yo q (Nat.le_refl _) hlt2] at hr
            exact ⟨H.out.weak, hr, Or.inl (by rw [eF])⟩
          clear eF eF' H
          go_wp2_with fail
          clear cc
          go_loopw [3, 10, 11] (fun mk v i wr => ∃ (c t : Nat) (ga : Option Addr) (gm gcap : Nat) (W : List Sl) (Y : Nat → List Int) (β : Nat × Nat → Option Nat), t ≤ 16 ∧ mk = .int .i64 (-(c : Int)) ∧ c ≤ k * 65 + q * 16 + t ∧ v = .slice ga gm gcap ∧ gm = fn + t ∧ i = .int .i64 t ∧ Hid (L2 w0 wr β (some ⟨b, 0, none⟩) k lc F X (some ⟨wb, 0, none⟩) wc W go q gc G Y (q + 1) ∧ IR wr ga gm gcap (Y q) ∧ Loc β F q ga)) (fun _ _ i _ => 16 - (intOf i).toNat)
          case atStart => exact ⟨c, 0, fa, fn, fc, W, Y, β, Nat.zero_le _, rfl, by omega, rfl, rfl, rfl, HI⟩
          case round =>
            clear HI hc
            obtain ⟨c, t, ga, gm, gcap, W, Y, β, ht, rfl, hc, rfl, hgm, rfl, H⟩ := hrel
            by_cases hl3 : t < 16
            · have hw : wrap64 (-(c : Int) - 1) = -(c : Int) - 1 := w64 (by omega) (by omega)
              obtain ⟨x, hx⟩ : ∃ x, -(c : Int) - 1 = x := ⟨_, rfl⟩
              rw [hx] at hw
              have HX : Hid (x = -((c + 1 : Nat) : Int)) := by show _ = _; omega
              have HG := hide H.out.2.1
              have HN : Hid (gm + 1 ≤ 17592186044316) := by show _ ≤ _; omega
              have HGM := hide hgm
              obtain ⟨wa, wm, wcap, eW⟩ : ∃ wa wm wcap, fr W q = ⟨wa, wm, wcap⟩ := ⟨_, _, _, rfl⟩
              have HM : Hid (∀ (w5 : World) (b5 : Option Addr) (c5 : Nat), IR w5 b5 (gm + 1) c5 (Y q ++ [x]) → Ap wr w5 ga b5 → (b5 = ga ∨ NewB wr w5 b5) → ∃ β', L2 w0 w5 β' (some ⟨b, 0, none⟩) k lc F X (some ⟨wb, 0, none⟩) wc W go q gc G Y (q + 1) ∧ Loc β' F q b5 ∧ w5.cell? ⟨wb, q, none⟩ = some (.slice wa wm wcap) ∧ IR w5 wa wm wcap (Y q)) := fun w5 b5 c5 r a al => by
                obtain ⟨β', h1, h2⟩ := H.out.1.gstep hlt2 H.out.2.1 H.out.2.2 (H.out.1.yt q hlt2) (by rw [HF.out]; show fn ≤ gm; have := HGM.out; omega) r a al
                obtain ⟨wb', e1, c1, _⟩ := h1.so.at q hlt2
                obtain rfl : wb = wb' := by cases e1; rfl
                have hwr := (h1.wr q hlt2).1
                have eW' : W.getD q sl0 = ⟨wa, wm, wcap⟩ := eW
                rw [eW'] at c1
                rw [eW] at hwr
                exact ⟨β', h1, h2, c1, hwr⟩
              have HY : Hid (∀ Z : List Int, Z = Y q ++ [x] → Z.take (fr F q).n = X q) := fun Z e => by
                rw [e, List.take_append_of_le_length (by rw [HG.out.len, HF.out]; show fn ≤ gm; have := HGM.out; omega)]
                exact H.out.1.yt q hlt2
              have HWM : Hid (wm + 1 ≤ 17592186044316) := by
                show _ ≤ _
                have h1 := (H.out.1.wr q hlt2).1.len
                rw [eW] at h1
                have h2 := HG.out.len
                have h1' : (Y q).length = wm := h1
                omega
              have HEW := hide eW
              clear H hgm eW
              go_wp2_with (first | (at_builtin; refine HG.out.app1K x HN.out rfl (.tmp 61) (.tmp 63) rfl rfl rfl ?_; intro b5 c5 w5 R5 A5 al5; obtain ⟨β5, L5, lc5, d5, r5⟩ := HM.out w5 b5 c5 R5 A5 al5; have HL5 := hide (And.intro L5 (And.intro lc5 R5)); have HR5 := hide r5; clear L5 lc5 R5 A5 al5 r5 HM) | (at_builtin; refine HR5.out.app1 x HWM.out rfl (.tmp 70) (.tmp 72) rfl rfl rfl ?_; intro b6 c6 w6 R6 A6; obtain ⟨β6, L6, g6, lc6, d6, f6⟩ := HL5.out.1.wstep hlt2 HL5.out.2.2 HL5.out.2.1 rfl (HY.out _ rfl) R6 (by rw [HEW.out]; exact A6); have HL6 := hide (And.intro L6 (And.intro g6 lc6)); clear L6 g6 lc6 R6 A6 d5))
              go_roundw
              case rel => exact ⟨c + 1, t + 1, b5, gm + 1, c5, _, _, β6, by omega, by rw [HX.out], by omega, rfl, by have := HGM.out; omega, by go_num, HL6.out.1, by rw [Xu_at]; exact HL6.out.2.1, HL6.out.2.2⟩
              case measure => simp [intOf]; omega
            · have HSO := hide H.out.1.sg
              have HP : Hid (∀ (w5 : World) (b5 : Option Addr) (c5 : Nat), SO 34 w5 b5 (q + 1) c5 (G ++ [⟨ga, gm, gcap⟩]) → Ap wr w5 go b5 → ∃ β', L2 w0 w5 β' (some ⟨b, 0, none⟩) k lc F X (some ⟨wb, 0, none⟩) wc W b5 (q + 1) c5 (G ++ [⟨ga, gm, gcap⟩]) Y (q + 1)) := fun w5 b5 c5 so a => H.out.1.push hlt2 H.out.2.1 H.out.2.2 so a
              clear H hgm
              go_wp2_with (at_builtin; refine SO.app (s := ⟨ga, gm, gcap⟩) HSO.out infoS Try.underlying30 (by omega) rfl (.tmp 75) (.tmp 77) rfl rfl rfl ?_; intro b5 c5 w5 so5 a5; have H5 := hide (HP.out w5 b5 c5 so5 a5); clear so5 a5 HP HSO)
              go_roundw
              case rel =>
                obtain ⟨β', h1⟩ := H5.out
                exact ⟨c, q + 1, b5, c5, _, W, Y, β', by omega, rfl, by omega, rfl, by go_num, h1⟩
              case measure => simp [intOf]; omega
        · obtain rfl : q = k := by omega
          go_wp2_with fail
          go_loopw [12] (fun i w3 => ∃ p : Nat, p ≤ q ∧ i = .int .i64 p ∧ Hid (Below wr.heap.size wr w3)) (fun i _ => q - (intOf i).toNat)
          case atStart => exact ⟨0, Nat.zero_le _, rfl, Below.refl _ _⟩
          case round =>
            rename World => w3
            obtain ⟨p, hp, rfl, HB⟩ := hrel
            by_cases hl3 : p < q
            · obtain ⟨b, rfl, c1, -⟩ := H.out.b.out.at p hl3
              obtain ⟨wb, rfl, c2, -⟩ := H.out.so.at p hl3
              obtain ⟨gb, rfl, c3, -⟩ := H.out.sg.at p hl3
              have s1 := H.out.src p hl3
              have s2 := (H.out.wr p hl3).1
              have s3 := (H.out.gr p hl3).1
              have yt := H.out.yt p hl3
              have hfn := H65.out p hl3
              obtain ⟨fa, fn, fc, eF⟩ : ∃ fa fn fc, fr F p = ⟨fa, fn, fc⟩ := ⟨_, _, _, rfl⟩
              obtain ⟨wa, wm, wcap, eW⟩ : ∃ fa fn fc, fr W p = ⟨fa, fn, fc⟩ := ⟨_, _, _, rfl⟩
              obtain ⟨ga, gm, gcap, eG⟩ : ∃ fa fn fc, fr G p = ⟨fa, fn, fc⟩ := ⟨_, _, _, rfl⟩
              have eF' : F.getD p sl0 = ⟨fa, fn, fc⟩ := eF
              have eW' : W.getD p sl0 = ⟨wa, wm, wcap⟩ := eW
              have eG' : G.getD p sl0 = ⟨ga, gm, gcap⟩ := eG
              rw [eF] at s1 yt hfn
              rw [eW] at s2
              rw [eG] at s3
              rw [eF'] at c1
              rw [eW'] at c2
              rw [eG'] at c3
              replace c1 : wr.cell? ⟨b, p, none⟩ = some (.slice fa fn fc) := c1
              replace c2 : wr.cell? ⟨wb, p, none⟩ = some (.slice wa wm wcap) := c2
              replace c3 : wr.cell? ⟨gb, p, none⟩ = some (.slice ga gm gcap) := c3
              replace s1 : NSrc wr fa fn fc (X p) := s1
              replace s2 : IR wr wa wm wcap (Y p) := s2
              replace s3 : IR wr ga gm gcap (Y p) := s3
              replace yt : (Y p).take fn = X p := yt
              replace hfn : fn ≤ 65 := hfn
              have hwm : fn ≤ wm := by have h1 := s2.len; have h2 := s1.len; have h3 := congrArg List.length yt; rw [List.length_take] at h3; omega
              have hcap : wm ≤ wcap ∧ (wa = none → wcap = 0) := by
                refine ⟨?_, fun e => (s2.src.nil e).2⟩
                rcases s2.2 with ⟨h0, h00⟩ | ⟨q', cap2, cur, hv, _, _, hnc, _⟩
                · omega
                · simp only [Value.slice.injEq] at hv; rw [hv.2.2]; exact hnc
              have hfc : fn ≤ wcap := by omega
              have sf := s2.front (an := fn) (ac := wcap) hwm hcap.2
              rw [yt] at sf
              have HS1 := hide (s1.below HB.out)
              have HS2 := hide (s2.src.below HB.out)
              have HS3 := hide (s3.src.below HB.out)
              have HSf := hide (sf.below HB.out)
              have hgl : gm ≤ 9223372036854775807 := by
                rcases s3.2 with ⟨h0, h00⟩ | ⟨q', cap2, cur, hv, _, _, hnc, hcm, _⟩
                · omega
                · unfold maxLen at hcm
                  omega
              have k1 := cell_regrown ((HB.out.cell (World.block_lt_of_cell? _ _ c1)).trans c1)
              have k2 := cell_regrown ((HB.out.cell (World.block_lt_of_cell? _ _ c2)).trans c2)
              have k3 := cell_regrown ((HB.out.cell (World.block_lt_of_cell? _ _ c3)).trans c3)
              have cS1 : ∀ d os, Calls Try.prog 14 #[.slice ga gm gcap, .slice wa wm wcap] (Sort.grow (redrawn w3 d) os) fun e w'' => e = .returned (.bool true) ∧ ∃ p : Regrown, w'' = Sort.grow (redrawn w3 p.d) p.os := fun d os =>
                Calls.regrown_of (sameInts_true _ _ _ _ _ _ _ _ (HS3.out.below (below_regrown w3 d os)) (HS2.out.below (below_regrown w3 d os)) hgl)
              have cS2 : ∀ d os, Calls Try.prog 14 #[.slice fa fn fc, .slice wa fn wcap] (Sort.grow (redrawn w3 d) os) fun e w'' => e = .returned (.bool true) ∧ ∃ p : Regrown, w'' = Sort.grow (redrawn w3 p.d) p.os := fun d os =>
                Calls.regrown_of (sameInts_true _ _ _ _ _ _ _ _ (HS1.out.below (below_regrown w3 d os)) (HSf.out.below (below_regrown w3 d os)) (by omega))
              clear eF eW eG eF' eW' eG' c1 c2 c3 s1 s2 s3 sf yt hcap
              go_wp2_with fail
              refine wp_region_quiet_below (by kernel_rfl) (by kernel_rfl) ?_
              repeat (with_reducible (refine wpQuiet_step ?_); intro K hK; go_simp; (try rw [if_neg (by unfold undef; simp)]); first | (with_reducible (refine hK _ ?_); clear hK K) | (apply Exists.intro; refine ⟨fun _ => ?_, hK _ ?_⟩; (go_at_call 14; first | exact cS1 _ _ | exact cS2 _ _); clear hK K))
              with_reducible (refine wpQuiet_nil ?_)
              intro w5 hw'
              obtain ⟨⟨dq, osq⟩, hw''⟩ := hw'
              have HB5 : Hid (Below wr.heap.size wr w5) := by
                have B5 : Below w3.heap.size w3 w5 := by rw [hw'']; exact below_regrown w3 dq osq
                exact HB.out.trans (B5.mono HB.out.size)
              clear hw'' dq osq
              go_wp2_with fail
              go_roundw
              case rel => exact ⟨p + 1, by omega, by go_num, HB5⟩
              case measure => simp [intOf]; omega
            · have HFin : Hid (Frm w0 w3 (SF q F)) := H.out.b.frm.below HB.out
              go_wp2_with fail
              go_ret
              exact ⟨rfl, HFin.out⟩
end Go.Proofs.Ytioioagomlpmeaa
