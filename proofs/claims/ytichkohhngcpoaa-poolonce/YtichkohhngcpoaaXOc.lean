/- PoolOnce: the law. -/
import Derived.Test.YtichkohhngcpoaaXOn
import Derived.Deep.DeepCutAuto
namespace Go.Proofs.Ytichkohhngcpoaa
open Go.RowKit Go.Maps
variable {w w' w2 w0 : World} {g mb g1 g3 : Nat}
attribute [local go_sem ↓] ldT_eq stT_eq ldO_eq stO_eq

/-- at the loop's head -/
def LO (w0 w : World) (g mb i : Nat) (v4 v5 : Value) : Prop := ∃ made K M C F S a4 c4 a5 c5, Pl w g mb made K M C ∧ OH w0 w g mb F S made made a4 c4 a5 c5 ∧ NR M a4 a5 ∧ Rl M C F S made ∧ made ≤ i ∧ K ≤ i ∧ (∀ j, (F.getD j []).length ≤ 140737488355328) ∧ v4 = .slice a4 made c4 ∧ v5 = .slice a5 made c5
theorem NR.del {M : Int → Option Ltr} {a4 a5 : Option Addr} (h : NR M a4 a5) (x : Int) : NR (mdel M x) a4 a5 := fun y l e => h y l (mdel_some e)
theorem NR.put {M : Int → Option Ltr} {a4 a5 : Option Addr} (h : NR M a4 a5) (x : Int) (l : Ltr) (hl : ∀ k, blk l.bo = some k → blk a4 ≠ some k ∧ blk a5 ≠ some k) : NR (mput M x l) a4 a5 := fun y m e k ek => by
  unfold mput at e
  by_cases hy : y = x
  · rw [if_pos hy] at e
    obtain rfl := Option.some.inj e
    exact hl k ek
  · rw [if_neg hy] at e
    exact h y m e k ek
theorem NR.growF {M : Int → Option Ltr} {C : Int → List Int} {made K : Nat} {a4 a5 b4 : Option Addr} (h : NR M a4 a5) (P : Pl w g mb made K M C) (A : Ap w w2 a4 b4) : NR M b4 a5 := fun y m e k ek => by
  refine ⟨fun x => ?_, (h y m e k ek).2⟩
  rcases A.lies with z | ⟨j, z, hj⟩
  · exact (h y m e k ek).1 (z ▸ x)
  · rw [z] at x
    have := Option.some.inj x
    have := P.rlt y m e k ek
    omega
theorem NR.growS {M : Int → Option Ltr} {C : Int → List Int} {made K : Nat} {a4 a5 b5 : Option Addr} (h : NR M a4 a5) (P : Pl w g mb made K M C) (A : Ap w w2 a5 b5) : NR M a4 b5 := fun y m e k ek => by
  refine ⟨(h y m e k ek).1, fun x => ?_⟩
  rcases A.lies with z | ⟨j, z, hj⟩
  · exact (h y m e k ek).2 (z ▸ x)
  · rw [z] at x
    have := Option.some.inj x
    have := P.rlt y m e k ek
    omega
theorem Pl.apF {M : Int → Option Ltr} {C : Int → List Int} {made K nF nS c4 c5 : Nat} {a4 a5 b4 : Option Addr} {F : List (List Int)} {S : List Bool} (P : Pl w g mb made K M C) (H : OH w0 w g mb F S nF nS a4 c4 a5 c5) (N : NR M a4 a5) (A : Ap w w2 a4 b4) : Pl w2 g mb made K M C :=
  P.grown A.grown (fun e => (H.nf g e.symm).1 rfl) (fun e => (H.nf mb e.symm).2.1 rfl) (fun x l e k ek h => (N x l e k ek).1 h.symm)
theorem Pl.apS {M : Int → Option Ltr} {C : Int → List Int} {made K nF nS c4 c5 : Nat} {a4 a5 b5 : Option Addr} {F : List (List Int)} {S : List Bool} (P : Pl w g mb made K M C) (H : OH w0 w g mb F S nF nS a4 c4 a5 c5) (N : NR M a4 a5) (A : Ap w w2 a5 b5) : Pl w2 g mb made K M C :=
  P.grown A.grown (fun e => (H.ns g e.symm).1 rfl) (fun e => (H.ns mb e.symm).2.1 rfl) (fun x l e k ek h => (N x l e k ek).2 h.symm)
theorem OBox.ap {op : Opr} {ao bo : Option Addr} (T : OBox w g1 op) (A : Ap w w2 ao bo) (h : blk ao ≠ some g1) : OBox w2 g1 op := (A.grown.block g1 T.lt (fun e => h e.symm)).trans T
theorem lenD {F : List (List Int)} {Z : List Int} (h : ∀ j, (F.getD j []).length ≤ 140737488355328) (hZ : Z.length ≤ 140737488355328) (j : Nat) : ((F ++ [Z]).getD j []).length ≤ 140737488355328 := by
  rw [getD_snoc]
  split
  · exact h j
  · split
    · exact hZ
    · simp
theorem take_self (Z : List Int) : Z = Z.take Z.length := by rw [List.take_length]
theorem wl_succ (M : Int → Option Ltr) (j : Nat) : wl M (j + 1) = wl M j ++ (if (M ((j : Int) + 1)).isSome = true then [(j : Int) + 1] else []) := by
  unfold wl
  rw [List.range_succ, List.map_append, List.filter_append]
  congr 1
  simp only [List.map_cons, List.map_nil, List.filter_cons, List.filter_nil]
theorem wl_pre (M : Int → Option Ltr) (j : Nat) : ∀ d : Nat, ∃ t, wl M (j + d) = wl M j ++ t
  | 0 => ⟨[], by simp⟩
  | d + 1 => by
    obtain ⟨t, ht⟩ := wl_pre M j d
    rw [← Nat.add_assoc, wl_succ, ht, List.append_assoc]
    exact ⟨_, rfl⟩
theorem wl_at {M : Int → Option Ltr} {j made : Nat} (hj : j < made) (h : (M ((j : Int) + 1)).isSome = true) : (wl M made)[(wl M j).length]? = some ((j : Int) + 1) := by
  obtain ⟨t, ht⟩ := wl_pre M (j + 1) (made - (j + 1))
  rw [show j + 1 + (made - (j + 1)) = made by omega, wl_succ, if_pos h] at ht
  rw [ht, List.append_assoc, List.getElem?_append_right (Nat.le_refl _), Nat.sub_self]
  rfl
theorem wl_len (M : Int → Option Ltr) (made : Nat) : (wl M made).length ≤ made := by
  unfold wl
  exact Nat.le_trans (List.length_filter_le _ _) (by simp)
theorem own_base {T : TypeId} {b n : Nat} {v : Value} {L : List Value} (h : w.ownsRow b T 1 v n L) : w.ownsRow 0 T 1 v n L := ⟨h.1, by
  rcases h.2 with h0 | ⟨q, c, cur, hv, _, r⟩
  · exact Or.inl h0
  · exact Or.inr ⟨q, c, cur, hv, Nat.zero_le _, r⟩⟩
set_option maxRecDepth 100000 in
set_option maxHeartbeats 0 in
theorem poolOnce_any (ao : Option Addr) (m c : Nat) (L : List Opr) (Y : Nat → List Int) (w0 : World) (S : OSrc w0 ao m c L Y) : Calls Try.prog 3 #[.slice ao m c] w0 fun r w' => r = .returned (.bool true) ∧ Below w0.heap.size w0 w' := by
  have HS := hide S
  clear S
  go_enter Try.func3, Try.ntmps3
  go_wp2_with fail
  refine (fixed_any w0).mono ?_
  rintro r w1 ⟨rfl, b1⟩
  have HB1 := hide b1
  clear b1
  go_wp2_with fail
  refine (new_any w1).mono ?_
  rintro r w2 ⟨rfl, P2, b2⟩
  obtain ⟨g, hg⟩ : ∃ g, w1.heap.size + 1 = g := ⟨_, rfl⟩
  obtain ⟨mb, hmb⟩ : ∃ mb, w1.heap.size = mb := ⟨_, rfl⟩
  have HG : Hid (w0.heap.size ≤ g ∧ w0.heap.size ≤ mb) := by have := HB1.out.size; exact ⟨by omega, by omega⟩
  rw [hg, hmb] at P2
  rw [hg]
  have HI0 : Hid (LO w0 w2 g mb 0 (.slice none 0 0) (.slice none 0 0)) := ⟨0, 0, _, _, [], [], none, 0, none, 0, P2, ⟨World.ownsRow_nil _ _ _ _, World.ownsRow_nil _ _ _ _, (fun k e => by cases e), (fun k e => by cases e), HB1.out.trans (b2.mono HB1.out.size), HG.out⟩, (fun x l e => by cases e), ⟨rfl, rfl, (fun j hj => absurd hj (Nat.not_lt_zero j)), (fun j l hj => absurd hj (Nat.not_lt_zero j))⟩, Nat.le_refl _, Nat.le_refl _, (fun j => by simp), rfl, rfl⟩
  clear P2 b2 hg hmb HB1
  go_wp2_with fail
  go_loopw [4, 5, 6] (fun v4 v5 i wr => ∃ k : Nat, k ≤ m ∧ i = .int .i64 k ∧ Hid (LO w0 wr g mb k v4 v5)) (fun _ _ i _ => m - (intOf i).toNat)
  case atStart => exact ⟨0, Nat.zero_le _, rfl, HI0⟩
  case round =>
    clear HI0
    obtain ⟨k, hk, rfl, HI⟩ := hrel
    obtain ⟨made, K, M, C, F, S, a4, c4, a5, c5, P, H, N0, R, hma, hKa, hF, rfl, rfl⟩ := HI.out
    clear HI
    by_cases hlt : k < m
    · have HK1 : Hid (wrap64 ((k : Int) + 1) = ((k + 1 : Nat) : Int)) := by show _ = _; have := HS.out.big; rw [w64 (by omega) (by omega)]; rfl
      have HLT := hide hlt
      have HBD : Hid (made ≤ k ∧ K ≤ k ∧ k < 3518437208883) := ⟨hma, hKa, by have := HS.out.big; omega⟩
      obtain ⟨bb, oo, rfl, A0⟩ := (HS.out.below H.bel).at k hlt
      have hE := HS.out.each k hlt
      obtain ⟨⟨kd, sec, N, X, Yy, ob, on, oc⟩, hop⟩ : ∃ op, L.getD k o0 = op := ⟨_, rfl⟩
      rw [hop] at A0 hE
      simp only at hE
      obtain ⟨hN, hX, SB, hon⟩ := hE
      have HNX : Hid (i64ok N ∧ i64ok X ∧ on ≤ 140737488355328) := ⟨hN, hX, hon⟩
      have HOP := hide hop
      have HYL : Hid ((Y k).length ≤ 140737488355328) := by show _ ≤ _; rw [SB.len]; exact hon
      have hld := run_laO A0
      obtain ⟨g1, hg1⟩ : ∃ g1, wr.heap.size = g1 := ⟨_, rfl⟩
      obtain ⟨wq, hst0, O1, bq, zq⟩ := madeO wr ⟨kd, sec, N, X, Yy, ob, on, oc⟩ g1 hg1
      have hst : (stO (.pointer (some ⟨g1, 0, none⟩)) (.agg (OC ⟨kd, sec, N, X, Yy, ob, on, oc⟩))).run Try.prog (wr.alloc (.cells #[.int .i64 0, .bool false, .int .i64 0, .int .i64 0, .int .i64 0, .slice none 0 0] 30)) = .ok () wq := hst0
      have HSB : Hid (BS wq ob on oc (Y k)) := (SB.below H.bel).below bq
      have y0 := O1.c0
      have y2 := O1.c2
      simp only at y0 y2
      have HO1 := hide O1
      have HPq := hide (P.below bq)
      have HHq := hide (H.below bq)
      have HNR := hide N0
      have HRL := hide R
      have HFL := hide hF
      have HW1 : Hid (g < g1 ∧ mb < g1 ∧ wq.heap.size = g1 + 1 ∧ blk a4 ≠ some g1 ∧ blk a5 ≠ some g1) := ⟨by have := P.g_lt; omega, by have := P.mb_lt; omega, by omega, (fun e => by have := H.lf g1 e; omega), (fun e => by have := H.ls g1 e; omega)⟩
      clear P H N0 R hma hKa hF A0 hop hN hX SB hon hst0 O1 bq zq
      obtain ⟨th, hth⟩ : ∃ th, (M N).isSome = th := ⟨_, rfl⟩
      have HTH := hide hth
      clear hth
      go_upto_region 12 with fail
      go_cut [8] (fun s8 wx => s8 = .bool th ∧ wx = wq)
      case first =>
        as_aux_lemma =>
          by_cases hN1 : N < 1
          · obtain rfl : th = false := by
              rw [← HTH.out]
              cases h : M N with
              | none => rfl
              | some l => have := HPq.out.dom N l h; omega
            go_wp2_with fail
            go_meet
            exact ⟨rfl, rfl⟩
          · by_cases hN2 : (made : Int) < N
            · obtain rfl : th = false := by
                rw [← HTH.out]
                cases h : M N with
                | none => rfl
                | some l => have := HPq.out.dom N l h; omega
              have hN1' : 1 ≤ N := by omega
              clear hN1
              go_wp2_with fail
              go_meet
              exact ⟨rfl, rfl⟩
            · obtain ⟨j, hj⟩ : ∃ j : Nat, N = (j : Int) + 1 := ⟨(N - 1).toNat, by omega⟩
              have hjm : j < made := by omega
              have hN1' : 1 ≤ N := by omega
              have hN2' : N ≤ (made : Int) := by omega
              have hmx : max N 1 = N := by omega
              have hsub : wrap64 (N - 1) = (j : Int) := by have := HNX.out.1; unfold i64ok at this; rw [w64 (by omega) (by omega)]; omega
              obtain ⟨b5, rfl, hc5, -⟩ := HHq.out.rs.at j hjm
              have hSl : j < S.length := by rw [HRL.out.lenS]; exact hjm
              obtain ⟨sj, hsj⟩ : ∃ sj, S.getD j true = sj := ⟨_, rfl⟩
              have hsj' : S[j]? = some sj := by rw [← hsj, List.getD_eq_getElem?_getD, List.getElem?_eq_getElem hSl]; rfl
              rw [List.getElem?_map, hsj', Option.map_some] at hc5
              have hlv := HRL.out.live j hjm
              rw [← hj, hsj, HTH.out] at hlv
              clear hsj hsj' hSl hN1 hN2 hj
              subst hlv
              cases sj with
              | true =>
                go_wp2_with fail
                go_meet
                exact ⟨rfl, rfl⟩
              | false =>
                go_wp2_with fail
                go_meet
                exact ⟨rfl, rfl⟩
      case rest =>
      obtain ⟨rfl, ecut⟩ := hcut
      obtain rfl := ecut.symm
      cases hM : M N with
      | none =>
        have HMn := hide hM
        obtain rfl : th = false := by rw [← HTH.out, hM]; rfl
        clear hM HTH
        by_cases h1 : kd = 1
        · subst h1
          as_aux_lemma =>
            have hcvB := HSB.out.str
            have HRF := hide HHq.out.rf
            have HGM : Hid (g < wq.heap.size ∧ mb < wq.heap.size) := ⟨HPq.out.g_lt, HPq.out.mb_lt⟩
            have y5 := HO1.out.c5
            simp only at y5
            go_wp2_with (first | (at_builtin; refine appS HRF.out rfl (by have := HBD.out; omega) rfl (.tmp 59) (.tmp 63) rfl rfl rfl ?_; intro bF dF wF RF AF; have HF2 := hide (HHq.out.addF RF AF HGM.out); have HP2 := hide (HPq.out.apF HHq.out HNR.out AF); have HN2 := hide (HNR.out.growF HPq.out AF); have HO2 := hide (HO1.out.ap AF HW1.out.2.2.2.1); have HAF := hide AF; clear RF AF HRF) | (at_builtin; refine appO HF2.out.rs rfl (by have := HBD.out; omega) rfl (.tmp 65) (.tmp 66) rfl rfl rfl ?_; intro bS dS wS RS AS; have HF3 := hide (HF2.out.addS RS AS ⟨HP2.out.g_lt, HP2.out.mb_lt⟩); have HP3 := hide (HP2.out.apS HF2.out HN2.out AS); have HN3 := hide (HN2.out.growS HP2.out AS); have HO3 := hide (HO2.out.ap AS HW1.out.2.2.2.2); have HAS := hide AS; clear RS AS))
            have HSB3 : Hid (BS wS ob on oc (Y k)) := by
              have hb := HS.out.each k HLT.out
              rw [HOP.out] at hb
              exact hb.2.2.1.below HF3.out.bel
            have HSZ : Hid (g1 < wS.heap.size) := HO3.out.lt
            have HSX : Hid (∀ W, OBox W g1 ⟨1, sec, N, X, Yy, ob, on, oc⟩ → W.cell? ⟨g1, 3, none⟩ = some (.int .i64 X) ∧ W.cell? ⟨g1, 4, none⟩ = some (.int .i64 Yy) ∧ W.cell? ⟨g1, 5, none⟩ = some (.slice ob on oc)) := fun W h => ⟨h.c3, h.c4, h.c5⟩
            obtain ⟨q, hq⟩ : ∃ q, wS.heap.size = q := ⟨_, rfl⟩
            obtain ⟨wl, hwl⟩ : ∃ wl, wS.drew.alloc (.cells #[] 5) = wl := ⟨_, rfl⟩
            have Bl : BR wl (some ⟨q, 0, none⟩) 0 0 [] := by rw [← hwl, ← hq]; exact BR.lit wS.drew
            have bl : Below wS.heap.size wS wl := by rw [← hwl]; exact (below_drew1 wS).trans (below_new wS.drew _)
            obtain ⟨b5', c5', w5, hrun, B5, A5⟩ := Bl.runs (HSB3.out.below bl) (by have := HNX.out.2.2; omega) 28
            rw [Nat.zero_add] at hrun B5
            rw [List.nil_append] at B5
            have hzl : wl.heap.size = q + 1 := by rw [← hwl, ← hq]; simp
            have bl5 : Below wS.heap.size wS w5 := bl.trans ⟨A5.grown.os, A5.grown.tape, A5.grown.output, A5.grown.size, fun i hi => A5.grown.block i (by omega) (fun e => by have : i = q := Option.some.inj e; omega)⟩
            have HOl := hide (HO3.out.below bl)
            have HO5 := hide (HO3.out.below bl5)
            have HF5 := hide (HF3.out.below bl5)
            have HPu := hide (put_any (HP3.out.below bl5) X Yy b5' on c5' _ B5.bs (fun i e => by
              have h := HP3.out.g_lt
              rcases A5.lies with x | ⟨j', x, hj'⟩
              · rw [x] at e
                have : q = i := Option.some.inj e
                omega
              · rw [x] at e
                have := Option.some.inj e
                omega) HNX.out.2.2 (by have := HBD.out; omega) (by have := HBD.out; unfold maxLen; omega))
            have HLs : Hid (∀ k, blk bF = some k → k < w5.heap.size) := fun k e => HF5.out.lf k e
            have HLt : Hid (∀ k, blk bS = some k → k < w5.heap.size) := fun k e => HF5.out.ls k e
            have HSd : Hid (wS.drew.cell? ⟨g1, 3, none⟩ = some (.int .i64 X) ∧ wS.drew.cell? ⟨g1, 4, none⟩ = some (.int .i64 Yy) ∧ wS.drew.cell? ⟨g1, 5, none⟩ = some (.slice ob on oc)) := HSX.out _ (HO3.out.below (below_drew1 _))
            clear Bl bl B5 A5 bl5 hzl HSB HPq HHq hcvB y5 HO1 HO2 HF2 HP2 HN2 HAF HAS
            refine wp_region_held_drew (S := fun W => W.cell? ⟨g1, 3, none⟩ = some (.int .i64 X) ∧ W.cell? ⟨g1, 4, none⟩ = some (.int .i64 Yy) ∧ W.cell? ⟨g1, 5, none⟩ = some (.slice ob on oc)) (by kernel_rfl) (HSd.out) (fun hHeld => ?_)
            refine wpAnyH_take (i := 0) (oi := { dst := some 68, op := Op.move (Operand.tmp 3), type := 24, pos := "law.go:138", after := #[], guard := none }) (v := ?_) rfl (by kernel_rfl) (by kernel_rfl) (by kernel_rfl) (fun _ _ _ h => h) (Or.inl ⟨by rfl, ?_⟩) (by assumption) ?_
            rotate_left
            · (intro w hSw; (try dsimp only at hSw); go_simp); first | done | with_reducible rfl
            simp only [Act.put, List.setIfInBounds_toArray, List.set_cons_zero, List.set_cons_succ]
            refine wpAnyH_take (i := 1) (oi := { dst := some 69, op := Op.fieldAddr 30 (Operand.tmp 7) 3, type := 0, pos := "law.go:138", after := #[], guard := none }) (v := ?_) rfl (by kernel_rfl) (by kernel_rfl) (by kernel_rfl) (fun _ _ _ h => h) (Or.inl ⟨by rfl, ?_⟩) (by assumption) ?_
            rotate_left
            · (intro w hSw; (try dsimp only at hSw); go_simp); first | done | with_reducible rfl
            simp only [Act.put, List.setIfInBounds_toArray, List.set_cons_zero, List.set_cons_succ]
            refine wpAnyH_take (i := 2) (oi := { dst := some 70, op := Op.load 3 (Operand.tmp 69), type := 3, pos := "law.go:138", after := #[{ on := 1, ground := Ground.data }], guard := none }) (v := ?_) rfl (by kernel_rfl) (by kernel_rfl) (by kernel_rfl) (fun _ _ _ h => h) (Or.inl ⟨by rfl, ?_⟩) (by assumption) ?_
            rotate_left
            · (intro w hSw; (try dsimp only at hSw); go_simp); first | done | with_reducible rfl
            simp only [Act.put, List.setIfInBounds_toArray, List.set_cons_zero, List.set_cons_succ]
            refine wpAnyH_take (i := 3) (oi := { dst := some 71, op := Op.fieldAddr 30 (Operand.tmp 7) 4, type := 0, pos := "law.go:138", after := #[], guard := none }) (v := ?_) rfl (by kernel_rfl) (by kernel_rfl) (by kernel_rfl) (fun _ _ _ h => h) (Or.inl ⟨by rfl, ?_⟩) (by assumption) ?_
            rotate_left
            · (intro w hSw; (try dsimp only at hSw); go_simp); first | done | with_reducible rfl
            simp only [Act.put, List.setIfInBounds_toArray, List.set_cons_zero, List.set_cons_succ]
            refine wpAnyH_take (i := 4) (oi := { dst := some 72, op := Op.load 3 (Operand.tmp 71), type := 3, pos := "law.go:138", after := #[{ on := 3, ground := Ground.data }], guard := none }) (v := ?_) rfl (by kernel_rfl) (by kernel_rfl) (by kernel_rfl) (fun _ _ _ h => h) (Or.inl ⟨by rfl, ?_⟩) (by assumption) ?_
            rotate_left
            · (intro w hSw; (try dsimp only at hSw); go_simp); first | done | with_reducible rfl
            simp only [Act.put, List.setIfInBounds_toArray, List.set_cons_zero, List.set_cons_succ]
            refine wpAnyH_take (i := 6) (oi := { dst := some 74, op := Op.fieldAddr 30 (Operand.tmp 7) 5, type := 0, pos := "law.go:138", after := #[], guard := none }) (v := ?_) rfl (by kernel_rfl) (by kernel_rfl) (by kernel_rfl) (fun _ _ _ h => h) (Or.inl ⟨by rfl, ?_⟩) (by assumption) ?_
            rotate_left
            · (intro w hSw; (try dsimp only at hSw); go_simp); first | done | with_reducible rfl
            simp only [Act.put, List.setIfInBounds_toArray, List.set_cons_zero, List.set_cons_succ]
            refine wpAnyH_take (i := 7) (oi := { dst := some 75, op := Op.load 28 (Operand.tmp 74), type := 28, pos := "law.go:138", after := #[{ on := 6, ground := Ground.data }], guard := none }) (v := ?_) rfl (by kernel_rfl) (by kernel_rfl) (by kernel_rfl) (fun _ _ _ h => h) (Or.inl ⟨by rfl, ?_⟩) (by assumption) ?_
            rotate_left
            · (intro w hSw; (try dsimp only at hSw); go_simp); first | done | with_reducible rfl
            simp only [Act.put, List.setIfInBounds_toArray, List.set_cons_zero, List.set_cons_succ]
            refine wpAnyH_take (i := 11) (oi := { dst := some 79, op := Op.move (Operand.tmp 4), type := 26, pos := "law.go:138", after := #[], guard := none }) (v := ?_) rfl (by kernel_rfl) (by kernel_rfl) (by kernel_rfl) (fun _ _ _ h => h) (Or.inl ⟨by rfl, ?_⟩) (by assumption) ?_
            rotate_left
            · (intro w hSw; (try dsimp only at hSw); go_simp); first | done | with_reducible rfl
            simp only [Act.put, List.setIfInBounds_toArray, List.set_cons_zero, List.set_cons_succ]
            refine wpAnyH_take (i := 12) (oi := { dst := some 80, op := Op.call { callee := Callee.builtin Builtin.len, args := #[Operand.tmp 79], argTypes := #[26] }, type := 3, pos := "law.go:138", after := #[{ on := 11, ground := Ground.data }], guard := none }) (v := ?_) rfl (by kernel_rfl) (by kernel_rfl) (by kernel_rfl) (fun _ _ _ h => h) (Or.inl ⟨by rfl, ?_⟩) (by assumption) ?_
            rotate_left
            · (intro w hSw; (try dsimp only at hSw); go_simp); first | done | with_reducible rfl
            simp only [Act.put, List.setIfInBounds_toArray, List.set_cons_zero, List.set_cons_succ]
            refine wpAnyH_ready (rs := [5]) (by kernel_rfl) (by simp) ?_
            refine AllReadyH.cons rfl (fun K hK => ?_) ?_
            rotate_left
            · exact AllReadyH.nil
            go_simp
            refine hK.out _ _ (HSX.out _ HOl.out) (fun hHeld => ?_)
            clear hK K
            refine wpAnyH_ready (rs := [8]) (by kernel_rfl) (by simp) ?_
            refine AllReadyH.cons rfl (fun K hK => ?_) ?_
            rotate_left
            · exact AllReadyH.nil
            refine step_app rfl (.tmp 73) (.tmp 75) rfl rfl rfl hrun ?_
            simp only [Act.put, List.setIfInBounds_toArray]
            refine hK.out _ _ (HSX.out _ HO5.out) (fun hHeld => ?_)
            clear hK K
            refine wpAnyH_take (i := 9) (oi := { dst := some 77, op := Op.build 33 #[(0, Operand.tmp 70), (1, Operand.tmp 72), (2, Operand.tmp 76)], type := 33, pos := "law.go:138", after := #[{ on := 2, ground := Ground.data }, { on := 4, ground := Ground.data }, { on := 8, ground := Ground.data }], guard := none }) (v := ?_) rfl (by kernel_rfl) (by kernel_rfl) (by kernel_rfl) (fun _ _ _ h => h) (Or.inl ⟨by rfl, ?_⟩) (by assumption) ?_
            rotate_left
            · (intro w hSw; (try dsimp only at hSw); go_simp); first | done | with_reducible rfl
            simp only [Act.put]
            refine wpAnyH_ready (rs := [10]) (by kernel_rfl) (by simp) ?_
            refine AllReadyH.cons rfl (fun K hK => ?_) ?_
            rotate_left
            · exact AllReadyH.nil
            go_simp
            go_wp2_with fail
            refine HPu.out.mono ?_
            rintro r w6 ⟨rfl, b6, c6, P6, F6, k6⟩
            have HE9 := hide P6
            have O6 := HO5.out.fw F6 (by have := HW1.out; omega) (by have := HW1.out; omega)
            have HEND : Hid (LO w0 w6 g mb (k + 1) (.slice bF (made + 1) dF) (.slice bS (made + 1) dS)) := ⟨made + 1, _, _, _, F ++ [Y k], S ++ [false], _, _, _, _, P6, HF5.out.fw F6, HN3.out.put _ _ (fun i ei => ⟨fun e => by have h1 := HLs.out i e; have h2 := k6 i ei; omega, fun e => by have h1 := HLt.out i e; have h2 := k6 i ei; omega⟩), HRL.out.add _ (Y k) (Y k) (take_self _), by have := HBD.out; omega, by have := HBD.out; omega, lenD HFL.out HYL.out, rfl, rfl⟩
            refine hK.out _ _ (HSX.out _ O6) (fun hHeld => ?_)
            clear hK P6 F6 O6 HPu k6
            refine wpAnyH_take (i := 13) (oi := { dst := some 81, op := Op.binOp BinOp.neq 3 (Operand.tmp 78) (Operand.tmp 80) 3, type := 4, pos := "law.go:138", after := #[{ on := 10, ground := Ground.data }, { on := 12, ground := Ground.data }], guard := none }) (v := ?_) rfl (by kernel_rfl) (by kernel_rfl) (by kernel_rfl) (fun _ _ _ h => h) (Or.inl ⟨by rfl, ?_⟩) (by assumption) ?_
            rotate_left
            · (intro w hSw; (try dsimp only at hSw); go_simp); first | done | with_reducible rfl
            simp only [Act.put, List.setIfInBounds_toArray, List.set_cons_zero, List.set_cons_succ]
            refine wpAnyH_done (by kernel_rfl) ?_ _
            clear hHeld
            have HMa := hide HE9.out.made_any
            go_wp2_with fail
            refine HMa.out.mono ?_
            rintro r wz ⟨rfl, rfl⟩
            go_wp2_with fail
            go_roundw
            case rel => exact ⟨k + 1, HLT.out, by rw [HK1.out], HEND⟩
            case measure => rw [HK1.out]; have := HLT.out; simp [intOf]; omega
        · skip
          by_cases h3 : kd = 3
          · subst h3
            as_aux_lemma =>
              have HC := hide (take_no HPq.out HNX.out.1 HMn.out)
              go_wp2_with fail
              refine HC.out.mono ?_
              rintro r w2 ⟨rfl, P2, F2⟩
              rw [mdel_none HMn.out] at P2
              obtain ⟨g3, hg3⟩ : ∃ g3, w2.heap.size = g3 := ⟨_, rfl⟩
              obtain ⟨w3, hst30, T3, b3, z3⟩ := madeT w2 t0 g3 hg3
              have hst3 : (stT (.pointer (some ⟨g3, 0, none⟩)) (.agg (TC t0))).run Try.prog (w2.alloc (.cells #[.int .i64 0, .int .i64 0, .slice none 0 0] 33)) = .ok () w3 := hst30
              clear hst30
              have HP3 := hide (P2.below b3)
              have HH3 := hide ((HHq.out.fw F2).below b3)
              clear P2 F2 T3 b3 z3 HC
              go_wp2_with fail
              go_quiet (fail)
              have HE9 := hide (HP3.out.below (below_drewN w3 nq))
              have HEND : Hid (LO w0 (w3.drewN nq) g mb (k + 1) (.slice a4 made c4) (.slice a5 made c5)) := ⟨made, K, M, C, F, S, _, _, _, _, HE9.out, HH3.out.below (below_drewN w3 nq), HNR.out, HRL.out, by have := HBD.out; omega, by have := HBD.out; omega, HFL.out, rfl, rfl⟩
              generalize w3.drewN nq = wd at HE9 HEND ⊢
              have HMa := hide HE9.out.made_any
              go_wp2_with fail
              refine HMa.out.mono ?_
              rintro r wz ⟨rfl, rfl⟩
              go_wp2_with fail
              go_roundw
              case rel => exact ⟨k + 1, HLT.out, by rw [HK1.out], HEND⟩
              case measure => rw [HK1.out]; have := HLT.out; simp [intOf]; omega
          · skip
            by_cases h4 : kd = 4
            · subst h4
              as_aux_lemma =>
                have HC := hide (drop_no HPq.out HNX.out.1 HMn.out)
                go_wp2_with fail
                refine HC.out.mono ?_
                rintro r w2 ⟨rfl, P2, F2⟩
                rw [mdel_none HMn.out] at P2
                have HP2 := hide P2
                have HH2 := hide (HHq.out.fw F2)
                clear P2 F2 HC
                have HE9 := hide (HP2.out)
                have HEND : Hid (LO w0 w2 g mb (k + 1) (.slice a4 made c4) (.slice a5 made c5)) := ⟨made, K, M, C, F, S, _, _, _, _, HE9.out, HH2.out, HNR.out, HRL.out, by have := HBD.out; omega, by have := HBD.out; omega, HFL.out, rfl, rfl⟩
                have HMa := hide HE9.out.made_any
                go_wp2_with fail
                refine HMa.out.mono ?_
                rintro r wz ⟨rfl, rfl⟩
                go_wp2_with fail
                go_roundw
                case rel => exact ⟨k + 1, HLT.out, by rw [HK1.out], HEND⟩
                case measure => rw [HK1.out]; have := HLT.out; simp [intOf]; omega
            · skip
              by_cases h5 : kd = 5
              · subst h5
                as_aux_lemma =>
                  have HC := hide (copy_no HPq.out HNX.out.1 HMn.out)
                  go_wp2_with fail
                  refine HC.out.mono ?_
                  rintro r w2 ⟨rfl, b2⟩
                  have HP2 := hide (HPq.out.below b2)
                  have HH2 := hide (HHq.out.below b2)
                  clear b2 HC
                  have HE9 := hide (HP2.out)
                  have HEND : Hid (LO w0 w2 g mb (k + 1) (.slice a4 made c4) (.slice a5 made c5)) := ⟨made, K, M, C, F, S, _, _, _, _, HE9.out, HH2.out, HNR.out, HRL.out, by have := HBD.out; omega, by have := HBD.out; omega, HFL.out, rfl, rfl⟩
                  have HMa := hide HE9.out.made_any
                  go_wp2_with fail
                  refine HMa.out.mono ?_
                  rintro r wz ⟨rfl, rfl⟩
                  go_wp2_with fail
                  go_roundw
                  case rel => exact ⟨k + 1, HLT.out, by rw [HK1.out], HEND⟩
                  case measure => rw [HK1.out]; have := HLT.out; simp [intOf]; omega
              · skip
                by_cases h6 : kd = 6
                · subst h6
                  as_aux_lemma =>
                    have HC := hide (look_no HPq.out HNX.out.1 HMn.out)
                    go_wp2_with fail
                    refine HC.out.mono ?_
                    rintro r w2 ⟨rfl, b2⟩
                    obtain ⟨g3, hg3⟩ : ∃ g3, w2.heap.size = g3 := ⟨_, rfl⟩
                    obtain ⟨w3, hst30, T3, b3, z3⟩ := madeT w2 t0 g3 hg3
                    have hst3 : (stT (.pointer (some ⟨g3, 0, none⟩)) (.agg (TC t0))).run Try.prog (w2.alloc (.cells #[.int .i64 0, .int .i64 0, .slice none 0 0] 33)) = .ok () w3 := hst30
                    clear hst30
                    have b23 := b2.trans (b3.mono b2.size)
                    have HP3 := hide (HPq.out.below b23)
                    have HH3 := hide (HHq.out.below b23)
                    have HO3 := hide (HO1.out.below b23)
                    have z2 := HO3.out.c2
                    have z3' := HO3.out.c3
                    simp only at z2 z3'
                    have HC3 := hide (trim_no HP3.out HNX.out.1 HMn.out X)
                    clear T3 b3 z3 b2 b23 HC
                    go_wp2_with fail
                    refine HC3.out.mono ?_
                    rintro r w4 ⟨rfl, b4'⟩
                    have HP4 := hide (HP3.out.below b4')
                    have HH4 := hide (HH3.out.below b4')
                    have y2' := (HO3.out.below b4').c2
                    simp only at y2'
                    have HC4 := hide (look_no HP4.out HNX.out.1 HMn.out)
                    clear b4' HC3
                    go_wp2_with fail
                    refine HC4.out.mono ?_
                    rintro r w5 ⟨rfl, b5'⟩
                    obtain ⟨g5, hg5⟩ : ∃ g5, w5.heap.size = g5 := ⟨_, rfl⟩
                    obtain ⟨w6, hst60, T6, b6, z6⟩ := madeT w5 t0 g5 hg5
                    have hst6 : (stT (.pointer (some ⟨g5, 0, none⟩)) (.agg (TC t0))).run Try.prog (w5.alloc (.cells #[.int .i64 0, .int .i64 0, .slice none 0 0] 33)) = .ok () w6 := hst60
                    have b56 := b5'.trans (b6.mono b5'.size)
                    have HP6 := hide (HP4.out.below b56)
                    have HH6 := hide (HH4.out.below b56)
                    clear hst60 T6 b6 z6 b5' b56 HC4
                    have HE9 := hide (HP6.out)
                    have HEND : Hid (LO w0 w6 g mb (k + 1) (.slice a4 made c4) (.slice a5 made c5)) := ⟨made, K, M, C, F, S, _, _, _, _, HE9.out, HH6.out, HNR.out, HRL.out, by have := HBD.out; omega, by have := HBD.out; omega, HFL.out, rfl, rfl⟩
                    have HMa := hide HE9.out.made_any
                    go_wp2_with fail
                    refine HMa.out.mono ?_
                    rintro r wz ⟨rfl, rfl⟩
                    go_wp2_with fail
                    go_roundw
                    case rel => exact ⟨k + 1, HLT.out, by rw [HK1.out], HEND⟩
                    case measure => rw [HK1.out]; have := HLT.out; simp [intOf]; omega
                · skip
                  as_aux_lemma =>
                    have HE9 := hide (HPq.out)
                    have HEND : Hid (LO w0 wq g mb (k + 1) (.slice a4 made c4) (.slice a5 made c5)) := ⟨made, K, M, C, F, S, _, _, _, _, HE9.out, HHq.out, HNR.out, HRL.out, by have := HBD.out; omega, by have := HBD.out; omega, HFL.out, rfl, rfl⟩
                    have HMa := hide HE9.out.made_any
                    go_wp2_with fail
                    refine HMa.out.mono ?_
                    rintro r wz ⟨rfl, rfl⟩
                    go_wp2_with fail
                    go_roundw
                    case rel => exact ⟨k + 1, HLT.out, by rw [HK1.out], HEND⟩
                    case measure => rw [HK1.out]; have := HLT.out; simp [intOf]; omega
      | some l =>
        obtain ⟨f, t, o, n, cc⟩ := l
        have HMs := hide hM
        obtain rfl : th = true := by rw [← HTH.out, hM]; rfl
        have hdom := HPq.out.dom N _ hM
        clear hM HTH
        obtain ⟨j, hj⟩ : ∃ j : Nat, N = (j : Int) + 1 := ⟨(N - 1).toNat, by omega⟩
        have HJ : Hid (N = (j : Int) + 1 ∧ j < made) := ⟨hj, by omega⟩
        have hjm : j < made := by omega
        have hsub : wrap64 (N - 1) = (j : Int) := by have := HNX.out.1; unfold i64ok at this; rw [w64 (by omega) (by omega)]; omega
        clear hdom hj
        obtain ⟨b5, rfl, hc5', hf5⟩ := HHq.out.rs.at j hjm
        have hc5 : wq.cell? ⟨b5, j, none⟩ = some (.bool false) := by
          have hSl : j < S.length := by rw [HRL.out.lenS]; exact hjm
          have hlv := HRL.out.live j hjm
          rw [← HJ.out.1, HMs.out] at hlv
          have hsj : S[j]? = some false := by
            rw [List.getElem?_eq_getElem hSl]
            rw [List.getD_eq_getElem?_getD, List.getElem?_eq_getElem hSl] at hlv
            simpa using hlv
          rw [List.getElem?_map, hsj, Option.map_some] at hc5'
          exact hc5'
        obtain ⟨b4, rfl, hc4, -⟩ := HHq.out.rf.at j hjm
        have hFl : j < F.length := by rw [HRL.out.lenF]; exact hjm
        obtain ⟨Fj, hFj⟩ : ∃ Fj, F.getD j [] = Fj := ⟨_, rfl⟩
        have hFj' : F[j]? = some Fj := by rw [← hFj, List.getD_eq_getElem?_getD, List.getElem?_eq_getElem hFl]; rfl
        rw [List.getElem?_map, hFj', Option.map_some] at hc4
        have HPre : Hid (C N = Fj.take (C N).length ∧ Fj.length ≤ 140737488355328 ∧ F.getD j [] = Fj) := by
          have h1 := HRL.out.pre j ⟨f, t, o, n, cc⟩ hjm (by rw [← HJ.out.1]; exact HMs.out)
          rw [← HJ.out.1, hFj] at h1
          exact ⟨h1, by rw [← hFj]; exact HFL.out j, hFj⟩
        clear hFj hFj' hFl hc5'
        by_cases h1 : kd = 1
        · subst h1
          as_aux_lemma =>
            have hcvB := HSB.out.str
            have HRF := hide HHq.out.rf
            have HGM : Hid (g < wq.heap.size ∧ mb < wq.heap.size) := ⟨HPq.out.g_lt, HPq.out.mb_lt⟩
            have y5 := HO1.out.c5
            simp only at y5
            go_wp2_with (first | (at_builtin; refine appS HRF.out rfl (by have := HBD.out; omega) rfl (.tmp 59) (.tmp 63) rfl rfl rfl ?_; intro bF dF wF RF AF; have HF2 := hide (HHq.out.addF RF AF HGM.out); have HP2 := hide (HPq.out.apF HHq.out HNR.out AF); have HN2 := hide (HNR.out.growF HPq.out AF); have HO2 := hide (HO1.out.ap AF HW1.out.2.2.2.1); have HAF := hide AF; clear RF AF HRF) | (at_builtin; refine appO HF2.out.rs rfl (by have := HBD.out; omega) rfl (.tmp 65) (.tmp 66) rfl rfl rfl ?_; intro bS dS wS RS AS; have HF3 := hide (HF2.out.addS RS AS ⟨HP2.out.g_lt, HP2.out.mb_lt⟩); have HP3 := hide (HP2.out.apS HF2.out HN2.out AS); have HN3 := hide (HN2.out.growS HP2.out AS); have HO3 := hide (HO2.out.ap AS HW1.out.2.2.2.2); have HAS := hide AS; clear RS AS))
            have HSB3 : Hid (BS wS ob on oc (Y k)) := by
              have hb := HS.out.each k HLT.out
              rw [HOP.out] at hb
              exact hb.2.2.1.below HF3.out.bel
            have HSZ : Hid (g1 < wS.heap.size) := HO3.out.lt
            have HSX : Hid (∀ W, OBox W g1 ⟨1, sec, N, X, Yy, ob, on, oc⟩ → W.cell? ⟨g1, 3, none⟩ = some (.int .i64 X) ∧ W.cell? ⟨g1, 4, none⟩ = some (.int .i64 Yy) ∧ W.cell? ⟨g1, 5, none⟩ = some (.slice ob on oc)) := fun W h => ⟨h.c3, h.c4, h.c5⟩
            obtain ⟨q, hq⟩ : ∃ q, wS.heap.size = q := ⟨_, rfl⟩
            obtain ⟨wl, hwl⟩ : ∃ wl, wS.drew.alloc (.cells #[] 5) = wl := ⟨_, rfl⟩
            have Bl : BR wl (some ⟨q, 0, none⟩) 0 0 [] := by rw [← hwl, ← hq]; exact BR.lit wS.drew
            have bl : Below wS.heap.size wS wl := by rw [← hwl]; exact (below_drew1 wS).trans (below_new wS.drew _)
            obtain ⟨b5', c5', w5, hrun, B5, A5⟩ := Bl.runs (HSB3.out.below bl) (by have := HNX.out.2.2; omega) 28
            rw [Nat.zero_add] at hrun B5
            rw [List.nil_append] at B5
            have hzl : wl.heap.size = q + 1 := by rw [← hwl, ← hq]; simp
            have bl5 : Below wS.heap.size wS w5 := bl.trans ⟨A5.grown.os, A5.grown.tape, A5.grown.output, A5.grown.size, fun i hi => A5.grown.block i (by omega) (fun e => by have : i = q := Option.some.inj e; omega)⟩
            have HOl := hide (HO3.out.below bl)
            have HO5 := hide (HO3.out.below bl5)
            have HF5 := hide (HF3.out.below bl5)
            have HPu := hide (put_any (HP3.out.below bl5) X Yy b5' on c5' _ B5.bs (fun i e => by
              have h := HP3.out.g_lt
              rcases A5.lies with x | ⟨j', x, hj'⟩
              · rw [x] at e
                have : q = i := Option.some.inj e
                omega
              · rw [x] at e
                have := Option.some.inj e
                omega) HNX.out.2.2 (by have := HBD.out; omega) (by have := HBD.out; unfold maxLen; omega))
            have HLs : Hid (∀ k, blk bF = some k → k < w5.heap.size) := fun k e => HF5.out.lf k e
            have HLt : Hid (∀ k, blk bS = some k → k < w5.heap.size) := fun k e => HF5.out.ls k e
            have HSd : Hid (wS.drew.cell? ⟨g1, 3, none⟩ = some (.int .i64 X) ∧ wS.drew.cell? ⟨g1, 4, none⟩ = some (.int .i64 Yy) ∧ wS.drew.cell? ⟨g1, 5, none⟩ = some (.slice ob on oc)) := HSX.out _ (HO3.out.below (below_drew1 _))
            clear Bl bl B5 A5 bl5 hzl HSB HPq HHq hcvB y5 HO1 HO2 HF2 HP2 HN2 HAF HAS
            refine wp_region_held_drew (S := fun W => W.cell? ⟨g1, 3, none⟩ = some (.int .i64 X) ∧ W.cell? ⟨g1, 4, none⟩ = some (.int .i64 Yy) ∧ W.cell? ⟨g1, 5, none⟩ = some (.slice ob on oc)) (by kernel_rfl) (HSd.out) (fun hHeld => ?_)
            refine wpAnyH_take (i := 0) (oi := { dst := some 68, op := Op.move (Operand.tmp 3), type := 24, pos := "law.go:138", after := #[], guard := none }) (v := ?_) rfl (by kernel_rfl) (by kernel_rfl) (by kernel_rfl) (fun _ _ _ h => h) (Or.inl ⟨by rfl, ?_⟩) (by assumption) ?_
            rotate_left
            · (intro w hSw; (try dsimp only at hSw); go_simp); first | done | with_reducible rfl
            simp only [Act.put, List.setIfInBounds_toArray, List.set_cons_zero, List.set_cons_succ]
            refine wpAnyH_take (i := 1) (oi := { dst := some 69, op := Op.fieldAddr 30 (Operand.tmp 7) 3, type := 0, pos := "law.go:138", after := #[], guard := none }) (v := ?_) rfl (by kernel_rfl) (by kernel_rfl) (by kernel_rfl) (fun _ _ _ h => h) (Or.inl ⟨by rfl, ?_⟩) (by assumption) ?_
            rotate_left
            · (intro w hSw; (try dsimp only at hSw); go_simp); first | done | with_reducible rfl
            simp only [Act.put, List.setIfInBounds_toArray, List.set_cons_zero, List.set_cons_succ]
            refine wpAnyH_take (i := 2) (oi := { dst := some 70, op := Op.load 3 (Operand.tmp 69), type := 3, pos := "law.go:138", after := #[{ on := 1, ground := Ground.data }], guard := none }) (v := ?_) rfl (by kernel_rfl) (by kernel_rfl) (by kernel_rfl) (fun _ _ _ h => h) (Or.inl ⟨by rfl, ?_⟩) (by assumption) ?_
            rotate_left
            · (intro w hSw; (try dsimp only at hSw); go_simp); first | done | with_reducible rfl
            simp only [Act.put, List.setIfInBounds_toArray, List.set_cons_zero, List.set_cons_succ]
            refine wpAnyH_take (i := 3) (oi := { dst := some 71, op := Op.fieldAddr 30 (Operand.tmp 7) 4, type := 0, pos := "law.go:138", after := #[], guard := none }) (v := ?_) rfl (by kernel_rfl) (by kernel_rfl) (by kernel_rfl) (fun _ _ _ h => h) (Or.inl ⟨by rfl, ?_⟩) (by assumption) ?_
            rotate_left
            · (intro w hSw; (try dsimp only at hSw); go_simp); first | done | with_reducible rfl
            simp only [Act.put, List.setIfInBounds_toArray, List.set_cons_zero, List.set_cons_succ]
            refine wpAnyH_take (i := 4) (oi := { dst := some 72, op := Op.load 3 (Operand.tmp 71), type := 3, pos := "law.go:138", after := #[{ on := 3, ground := Ground.data }], guard := none }) (v := ?_) rfl (by kernel_rfl) (by kernel_rfl) (by kernel_rfl) (fun _ _ _ h => h) (Or.inl ⟨by rfl, ?_⟩) (by assumption) ?_
            rotate_left
            · (intro w hSw; (try dsimp only at hSw); go_simp); first | done | with_reducible rfl
            simp only [Act.put, List.setIfInBounds_toArray, List.set_cons_zero, List.set_cons_succ]
            refine wpAnyH_take (i := 6) (oi := { dst := some 74, op := Op.fieldAddr 30 (Operand.tmp 7) 5, type := 0, pos := "law.go:138", after := #[], guard := none }) (v := ?_) rfl (by kernel_rfl) (by kernel_rfl) (by kernel_rfl) (fun _ _ _ h => h) (Or.inl ⟨by rfl, ?_⟩) (by assumption) ?_
            rotate_left
            · (intro w hSw; (try dsimp only at hSw); go_simp); first | done | with_reducible rfl
            simp only [Act.put, List.setIfInBounds_toArray, List.set_cons_zero, List.set_cons_succ]
            refine wpAnyH_take (i := 7) (oi := { dst := some 75, op := Op.load 28 (Operand.tmp 74), type := 28, pos := "law.go:138", after := #[{ on := 6, ground := Ground.data }], guard := none }) (v := ?_) rfl (by kernel_rfl) (by kernel_rfl) (by kernel_rfl) (fun _ _ _ h => h) (Or.inl ⟨by rfl, ?_⟩) (by assumption) ?_
            rotate_left
            · (intro w hSw; (try dsimp only at hSw); go_simp); first | done | with_reducible rfl
            simp only [Act.put, List.setIfInBounds_toArray, List.set_cons_zero, List.set_cons_succ]
            refine wpAnyH_take (i := 11) (oi := { dst := some 79, op := Op.move (Operand.tmp 4), type := 26, pos := "law.go:138", after := #[], guard := none }) (v := ?_) rfl (by kernel_rfl) (by kernel_rfl) (by kernel_rfl) (fun _ _ _ h => h) (Or.inl ⟨by rfl, ?_⟩) (by assumption) ?_
            rotate_left
            · (intro w hSw; (try dsimp only at hSw); go_simp); first | done | with_reducible rfl
            simp only [Act.put, List.setIfInBounds_toArray, List.set_cons_zero, List.set_cons_succ]
            refine wpAnyH_take (i := 12) (oi := { dst := some 80, op := Op.call { callee := Callee.builtin Builtin.len, args := #[Operand.tmp 79], argTypes := #[26] }, type := 3, pos := "law.go:138", after := #[{ on := 11, ground := Ground.data }], guard := none }) (v := ?_) rfl (by kernel_rfl) (by kernel_rfl) (by kernel_rfl) (fun _ _ _ h => h) (Or.inl ⟨by rfl, ?_⟩) (by assumption) ?_
            rotate_left
            · (intro w hSw; (try dsimp only at hSw); go_simp); first | done | with_reducible rfl
            simp only [Act.put, List.setIfInBounds_toArray, List.set_cons_zero, List.set_cons_succ]
            refine wpAnyH_ready (rs := [5]) (by kernel_rfl) (by simp) ?_
            refine AllReadyH.cons rfl (fun K hK => ?_) ?_
            rotate_left
            · exact AllReadyH.nil
            go_simp
            refine hK.out _ _ (HSX.out _ HOl.out) (fun hHeld => ?_)
            clear hK K
            refine wpAnyH_ready (rs := [8]) (by kernel_rfl) (by simp) ?_
            refine AllReadyH.cons rfl (fun K hK => ?_) ?_
            rotate_left
            · exact AllReadyH.nil
            refine step_app rfl (.tmp 73) (.tmp 75) rfl rfl rfl hrun ?_
            simp only [Act.put, List.setIfInBounds_toArray]
            refine hK.out _ _ (HSX.out _ HO5.out) (fun hHeld => ?_)
            clear hK K
            refine wpAnyH_take (i := 9) (oi := { dst := some 77, op := Op.build 33 #[(0, Operand.tmp 70), (1, Operand.tmp 72), (2, Operand.tmp 76)], type := 33, pos := "law.go:138", after := #[{ on := 2, ground := Ground.data }, { on := 4, ground := Ground.data }, { on := 8, ground := Ground.data }], guard := none }) (v := ?_) rfl (by kernel_rfl) (by kernel_rfl) (by kernel_rfl) (fun _ _ _ h => h) (Or.inl ⟨by rfl, ?_⟩) (by assumption) ?_
            rotate_left
            · (intro w hSw; (try dsimp only at hSw); go_simp); first | done | with_reducible rfl
            simp only [Act.put]
            refine wpAnyH_ready (rs := [10]) (by kernel_rfl) (by simp) ?_
            refine AllReadyH.cons rfl (fun K hK => ?_) ?_
            rotate_left
            · exact AllReadyH.nil
            go_simp
            go_wp2_with fail
            refine HPu.out.mono ?_
            rintro r w6 ⟨rfl, b6, c6, P6, F6, k6⟩
            have HE9 := hide P6
            have O6 := HO5.out.fw F6 (by have := HW1.out; omega) (by have := HW1.out; omega)
            have HEND : Hid (LO w0 w6 g mb (k + 1) (.slice bF (made + 1) dF) (.slice bS (made + 1) dS)) := ⟨made + 1, _, _, _, F ++ [Y k], S ++ [false], _, _, _, _, P6, HF5.out.fw F6, HN3.out.put _ _ (fun i ei => ⟨fun e => by have h1 := HLs.out i e; have h2 := k6 i ei; omega, fun e => by have h1 := HLt.out i e; have h2 := k6 i ei; omega⟩), HRL.out.add _ (Y k) (Y k) (take_self _), by have := HBD.out; omega, by have := HBD.out; omega, lenD HFL.out HYL.out, rfl, rfl⟩
            refine hK.out _ _ (HSX.out _ O6) (fun hHeld => ?_)
            clear hK P6 F6 O6 HPu k6
            refine wpAnyH_take (i := 13) (oi := { dst := some 81, op := Op.binOp BinOp.neq 3 (Operand.tmp 78) (Operand.tmp 80) 3, type := 4, pos := "law.go:138", after := #[{ on := 10, ground := Ground.data }, { on := 12, ground := Ground.data }], guard := none }) (v := ?_) rfl (by kernel_rfl) (by kernel_rfl) (by kernel_rfl) (fun _ _ _ h => h) (Or.inl ⟨by rfl, ?_⟩) (by assumption) ?_
            rotate_left
            · (intro w hSw; (try dsimp only at hSw); go_simp); first | done | with_reducible rfl
            simp only [Act.put, List.setIfInBounds_toArray, List.set_cons_zero, List.set_cons_succ]
            refine wpAnyH_done (by kernel_rfl) ?_ _
            clear hHeld
            have HMa := hide HE9.out.made_any
            go_wp2_with fail
            refine HMa.out.mono ?_
            rintro r wz ⟨rfl, rfl⟩
            go_wp2_with fail
            go_roundw
            case rel => exact ⟨k + 1, HLT.out, by rw [HK1.out], HEND⟩
            case measure => rw [HK1.out]; have := HLT.out; simp [intOf]; omega
        · skip
          by_cases h3 : kd = 3
          · subst h3
            as_aux_lemma =>
              have HC := hide (take_yes HPq.out HNX.out.1 HMs.out)
              go_wp2_with fail
              refine HC.out.mono ?_
              rintro r w2 ⟨bt, ct, rfl, B2, hn2, P2, F2⟩
              simp only at B2
              obtain ⟨g3, hg3⟩ : ∃ g3, w2.heap.size = g3 := ⟨_, rfl⟩
              obtain ⟨w3, hst3, T3, b3, z3⟩ := madeT w2 ⟨f, t, bt, n, ct⟩ g3 hg3
              rw [t0_cells] at hst3
              have P3 := P2.below b3
              have H3 := (HHq.out.fw F2).below b3
              have B3 := B2.below b3
              have O3 := (HO1.out.fw F2 (by have := HW1.out; omega) (by have := HW1.out; omega)).below b3
              have x4 : w3.cell? ⟨b4, j, none⟩ = some (.string (strOfNums Fj)) := by rw [((b3.cell (by have := (HHq.out.fw F2).lf b4 rfl; exact this)).trans (World.cell?_of_block (F2.block b4 (HHq.out.lf b4 rfl) (HHq.out.nf b4 rfl).1 (HHq.out.nf b4 rfl).2.1)))]; exact hc4
              have x5 : w3.cell? ⟨b5, j, none⟩ = some (.bool false) := by rw [((b3.cell (by have := (HHq.out.fw F2).ls b5 rfl; exact this)).trans (World.cell?_of_block (F2.block b5 (HHq.out.ls b5 rfl) (HHq.out.ns b5 rfl).1 (HHq.out.ns b5 rfl).2.1)))]; exact hc5
              obtain ⟨_, hbb, -, f5⟩ := H3.rs.at j hjm
              obtain rfl := congrArg Addr.block (Option.some.inj hbb)
              have z2 := O3.c2
              have tc2 := T3.c2
              simp only at z2 tc2
              have hcv : ∀ i, (convert 28 9 (.slice bt n ct)).run Try.prog (w3.drewN i) = .ok (.string (strOfNums (C N))) (w3.drewN i) := fun i => (B3.below (below_drewN w3 i)).bs.str
              have HBe : Hid (∀ i, Calls Try.prog 9 #[.string (strOfNums Fj), .string (strOfNums (C N))] (w3.drewN i) fun r w' => r = .returned (.bool true) ∧ w' = w3.drewN i) := fun i => begins_any Fj (C N) HPre.out.1 HPre.out.2.1 _
              have HP3 := hide P3
              have HH3 := hide H3
              have HO3 := hide O3
              clear P2 F2 T3 b3 z3 HC P3 H3 B3 B2 O3 hn2 hc4 hc5 hf5 hbb
              go_wp2_with fail
              go_quiet ((go_at_call 9; exact Calls.quiet_of_same (HBe.out _)))
              have q2 : (w3.drewN nq).cell? ⟨g1, 2, none⟩ = some (.int .i64 N) := z2
              have q5 : (w3.drewN nq).cell? ⟨b5, j, none⟩ = some (.bool false) := x5
              have qf : (w3.drewN nq).frozen? ⟨b5, j, none⟩ = false := f5
              have HPd := hide (HP3.out.below (below_drewN w3 nq))
              have HHd := hide (HH3.out.below (below_drewN w3 nq))
              clear hcv HBe z2 x5 f5 tc2 x4 HP3 HH3 HO3
              generalize w3.drewN nq = wd at HPd HHd q2 q5 qf ⊢
              have HE9 : Hid (Pl (wd.setCell ⟨b5, j, none⟩ (.bool true)) g mb made K (mdel M N) C) := HPd.out.setCell j _ (HHd.out.ns b5 rfl).1 (HHd.out.ns b5 rfl).2.1 (fun x l e k ek h => (HNR.out x l (mdel_some e) k ek).2 (by rw [h]; rfl))
              have HEND : Hid (LO w0 (wd.setCell ⟨b5, j, none⟩ (.bool true)) g mb (k + 1) (.slice (some ⟨b4, 0, none⟩) made c4) (.slice (some ⟨b5, 0, none⟩) made c5)) := ⟨made, K, _, C, F, S.set j true, _, _, _, _, HE9.out, HHd.out.setS j HJ.out.2 true, HNR.out.del N, by have h := HRL.out.del j HJ.out.2; rw [← HJ.out.1] at h; exact h, by have := HBD.out; omega, by have := HBD.out; omega, HFL.out, rfl, rfl⟩
              have HMa := hide HE9.out.made_any
              go_wp2_with fail
              refine HMa.out.mono ?_
              rintro r wz ⟨rfl, rfl⟩
              go_wp2_with fail
              go_roundw
              case rel => exact ⟨k + 1, HLT.out, by rw [HK1.out], HEND⟩
              case measure => rw [HK1.out]; have := HLT.out; simp [intOf]; omega
          · skip
            by_cases h4 : kd = 4
            · subst h4
              as_aux_lemma =>
                have HC := hide (drop_yes HPq.out HNX.out.1 HMs.out)
                go_wp2_with fail
                refine HC.out.mono ?_
                rintro r wd ⟨rfl, P2, F2⟩
                have H2 := HHq.out.fw F2
                have O2 := HO1.out.fw F2 (by have := HW1.out; omega) (by have := HW1.out; omega)
                have q2 := O2.c2
                simp only at q2
                have q5 : wd.cell? ⟨b5, j, none⟩ = some (.bool false) := by rw [World.cell?_of_block (F2.block b5 (HHq.out.ls b5 rfl) (HHq.out.ns b5 rfl).1 (HHq.out.ns b5 rfl).2.1)]; exact hc5
                obtain ⟨_, hbb, -, qf⟩ := H2.rs.at j hjm
                obtain rfl := congrArg Addr.block (Option.some.inj hbb)
                have HPd := hide P2
                have HHd := hide H2
                clear P2 F2 HC H2 O2 hc4 hc5 hf5 hbb
                have HE9 : Hid (Pl (wd.setCell ⟨b5, j, none⟩ (.bool true)) g mb made K (mdel M N) C) := HPd.out.setCell j _ (HHd.out.ns b5 rfl).1 (HHd.out.ns b5 rfl).2.1 (fun x l e k ek h => (HNR.out x l (mdel_some e) k ek).2 (by rw [h]; rfl))
                have HEND : Hid (LO w0 (wd.setCell ⟨b5, j, none⟩ (.bool true)) g mb (k + 1) (.slice (some ⟨b4, 0, none⟩) made c4) (.slice (some ⟨b5, 0, none⟩) made c5)) := ⟨made, K, _, C, F, S.set j true, _, _, _, _, HE9.out, HHd.out.setS j HJ.out.2 true, HNR.out.del N, by have h := HRL.out.del j HJ.out.2; rw [← HJ.out.1] at h; exact h, by have := HBD.out; omega, by have := HBD.out; omega, HFL.out, rfl, rfl⟩
                have HMa := hide HE9.out.made_any
                go_wp2_with fail
                refine HMa.out.mono ?_
                rintro r wz ⟨rfl, rfl⟩
                go_wp2_with fail
                go_roundw
                case rel => exact ⟨k + 1, HLT.out, by rw [HK1.out], HEND⟩
                case measure => rw [HK1.out]; have := HLT.out; simp [intOf]; omega
            · skip
              by_cases h5 : kd = 5
              · subst h5
                as_aux_lemma =>
                  have HC := hide (copy_yes HPq.out HNX.out.1 HMs.out (by have := HBD.out; omega) (by have := HBD.out; unfold maxLen; omega))
                  have ew : wrap64 ((made : Int) + 1) = ((made + 1 : Nat) : Int) := by have := HBD.out; rw [w64 (by omega) (by omega)]; rfl
                  go_wp2_with fail
                  refine HC.out.mono ?_
                  rintro r wd ⟨rfl, bo, co, P2, F2, k2⟩
                  have H2 := HHq.out.fw F2
                  have O2 := HO1.out.fw F2 (by have := HW1.out; omega) (by have := HW1.out; omega)
                  have q2 := O2.c2
                  simp only at q2
                  have q4 : wd.cell? ⟨b4, j, none⟩ = some (.string (strOfNums Fj)) := by rw [World.cell?_of_block (F2.block b4 (HHq.out.lf b4 rfl) (HHq.out.nf b4 rfl).1 (HHq.out.nf b4 rfl).2.1)]; exact hc4
                  have N2 : NR (mput M ((made + 1 : Nat) : Int) ⟨f, t, bo, n, co⟩) (some ⟨b4, 0, none⟩) (some ⟨b5, 0, none⟩) := HNR.out.put _ _ (fun i ei => ⟨fun e => by have h1 := HHq.out.lf i e; have h2 := k2 i ei; omega, fun e => by have h1 := HHq.out.ls i e; have h2 := k2 i ei; omega⟩)
                  have HRN := hide (HRL.out.add ⟨f, t, bo, n, co⟩ (C N) Fj HPre.out.1)
                  have HPd := hide P2
                  have HHd := hide H2
                  have HNd := hide N2
                  have HRF := hide H2.rf
                  clear P2 F2 HC H2 O2 hc4 hc5 hf5 k2 N2
                  go_wp2_with (first | (at_builtin; refine appS HRF.out rfl (by have := HBD.out; omega) rfl (.tmp 156) (.tmp 163) rfl rfl rfl ?_; intro bF dF wF RF AF; have HF2 := hide (HHd.out.addF RF AF ⟨HPd.out.g_lt, HPd.out.mb_lt⟩); have HP2 := hide (HPd.out.apF HHd.out HNd.out AF); have HN2 := hide (HNd.out.growF HPd.out AF); clear RF AF HRF) | (at_builtin; refine appO HF2.out.rs rfl (by have := HBD.out; omega) rfl (.tmp 165) (.tmp 166) rfl rfl rfl ?_; intro bS dS wS RS AS; have HF3 := hide (HF2.out.addS RS AS ⟨HP2.out.g_lt, HP2.out.mb_lt⟩); have HE9 := hide (HP2.out.apS HF2.out HN2.out AS); have HN3 := hide (HN2.out.growS HP2.out AS); clear RS AS; have HEND : Hid (LO w0 wS g mb (k + 1) (.slice bF (made + 1) dF) (.slice bS (made + 1) dS)) := ⟨made + 1, _, _, _, F ++ [Fj], S ++ [false], _, _, _, _, HE9.out, HF3.out, HN3.out, HRN.out, by have := HBD.out; omega, by have := HBD.out; omega, lenD HFL.out HPre.out.2.1, rfl, rfl⟩; have HMa := hide HE9.out.made_any) | (go_at_call 14; refine HMa.out.mono ?_; rintro r wz ⟨rfl, rfl⟩))
                  go_roundw
                  case rel => exact ⟨k + 1, HLT.out, by rw [HK1.out], HEND⟩
                  case measure => rw [HK1.out]; have := HLT.out; simp [intOf]; omega
              · skip
                by_cases h6 : kd = 6
                · subst h6
                  as_aux_lemma =>
                    have HC := hide (look_yes HPq.out HNX.out.1 HMs.out)
                    go_wp2_with fail
                    refine HC.out.mono ?_
                    rintro r w2 ⟨bt, ct, rfl, B2, N2⟩
                    simp only at B2
                    obtain ⟨g3, hg3⟩ : ∃ g3, w2.heap.size = g3 := ⟨_, rfl⟩
                    obtain ⟨w3, hst3, T3, b3, z3⟩ := madeT w2 ⟨f, t, bt, n, ct⟩ g3 hg3
                    rw [t0_cells] at hst3
                    have b23 := N2.1.trans (b3.mono N2.1.size)
                    have HP3 := hide (HPq.out.below b23)
                    have HH3 := hide (HHq.out.below b23)
                    have HO3 := hide (HO1.out.below b23)
                    have HT3 : Hid (TBox w3 g3 ⟨f, t, bt, n, ct⟩ ∧ g3 ≠ g ∧ g3 ≠ mb ∧ BR w3 bt n ct (C N) ∧ ∀ k, blk bt = some k → k ≠ g ∧ k ≠ mb) := by
                      have h1 := HPq.out.g_lt
                      have h2 := HPq.out.mb_lt
                      have h3 := N2.1.size
                      exact ⟨T3, by omega, by omega, B2.below b3, fun k e => by have := N2.2 k e; constructor <;> omega⟩
                    have z2 := HO3.out.c2
                    have z3' := HO3.out.c3
                    simp only at z2 z3'
                    by_cases hX1 : X < 1
                    · have HTr := hide (trim_arg HP3.out HNX.out.1 HMs.out hX1)
                      clear b23 T3 b3 z3 B2 N2 HC
                      go_wp2_with fail
                      refine HTr.out.mono ?_
                      rintro r w4 ⟨rfl, b4'⟩
                      have P4 := HP3.out.below b4'
                      have F4 : Fw w3 w4 g mb := Fw.of_below b4'
                      have R4 := HRL.out
                      have N4 := HNR.out
                      have m4 := HMs.out
                      have c4e : C N = (C N).take (C N).length := take_self _
                      obtain ⟨M4, hM4⟩ : ∃ M4, M = M4 := ⟨_, rfl⟩
                      obtain ⟨C4, hC4⟩ : ∃ C4, C = C4 := ⟨_, rfl⟩
                      have e4 : C4 N = (C N).take (C4 N).length := by rw [← hC4]; exact c4e
                      rw [hM4] at P4 R4 N4 m4
                      rw [hC4] at P4 R4
                      have hlen4 : True := trivial
                      clear hM4 hC4 b4' c4e HTr
                      have HP4 := hide P4
                      have HH4 := hide (HH3.out.fw F4)
                      have O4 := HO3.out.fw F4 (by have := HW1.out; omega) (by have := HW1.out; omega)
                      have T4 := HT3.out.1.fw F4 HT3.out.2.1 HT3.out.2.2.1
                      have B4 := HT3.out.2.2.2.1.fw F4 HT3.out.2.2.2.2
                      have HR4 := hide R4
                      have HN4 := hide N4
                      have y2' := O4.c2
                      simp only at y2'
                      have HC4 := hide (look_yes P4 HNX.out.1 m4)
                      have HX4 := hide (And.intro O4 (And.intro T4 B4))
                      have HE4 := hide e4
                      clear P4 F4 R4 N4 m4 O4 T4 B4 e4 HH3 HP3 HT3 HO3
                      go_wp2_with fail
                      refine HC4.out.mono ?_
                      rintro r w5 ⟨bu, cu, rfl, B5, N5⟩
                      simp only at B5
                      obtain ⟨g5, hg5⟩ : ∃ g5, w5.heap.size = g5 := ⟨_, rfl⟩
                      obtain ⟨w6, hst6, T6, b6, z6⟩ := madeT w5 ⟨f, t, bu, n, cu⟩ g5 hg5
                      rw [t0_cells] at hst6
                      have b56 := N5.1.trans (b6.mono N5.1.size)
                      have HP6 := hide (HP4.out.below b56)
                      have HH6 := hide (HH4.out.below b56)
                      have v2 := (HX4.out.2.1.below b56).c2
                      have tc2 := T6.c2
                      have o3 := (HX4.out.1.below b56).c3
                      have sA := (HX4.out.2.2.below b56).bs.str
                      have sB := (B5.below b6).bs.str
                      simp only at v2 tc2 o3
                      have HBe : Hid (∀ w, Calls Try.prog 9 #[.string (strOfNums (C N)), .string (strOfNums (C4 N))] w fun r w' => r = .returned (.bool true) ∧ w' = w) := fun w => begins_any (C N) (C4 N) HE4.out (by have h1 := HPq.out.row N _ HMs.out; have h2 := h1.bs.len; have h3 := h1.big; simp only at h2 h3; omega) w
                      have HE9 := hide HP6.out
                      have HEND : Hid (LO w0 w6 g mb (k + 1) (.slice (some ⟨b4, 0, none⟩) made c4) (.slice (some ⟨b5, 0, none⟩) made c5)) := ⟨made, K, M4, C4, F, S, _, _, _, _, HP6.out, HH6.out, HN4.out, HR4.out, by have := HBD.out; omega, by have := HBD.out; omega, HFL.out, rfl, rfl⟩
                      have HMa := hide HE9.out.made_any
                      clear B5 N5 T6 b6 z6 b56 HC4 HP4 HH4 HX4
                      have hX0 : ¬ 0 < X := by omega
                      go_wp2_with (first | (go_at_call 9; refine (HBe.out _).mono ?_; rintro r wy ⟨rfl, rfl⟩) | (go_at_call 14; refine HMa.out.mono ?_; rintro r wz ⟨rfl, rfl⟩))
                      go_roundw
                      case rel => exact ⟨k + 1, HLT.out, by rw [HK1.out], HEND⟩
                      case measure => rw [HK1.out]; have := HLT.out; simp [intOf]; omega
                    · by_cases hnz : n = 0
                      · subst hnz
                        obtain ⟨lf, hlf⟩ : ∃ lf : Nat, lf = (((0 : Nat) : Int) - X).toNat := ⟨_, rfl⟩
                        have HLF := hide hlf
                        have HTr := hide (trim_ok HP3.out HNX.out.1 HMs.out (cut := X) (by omega) (by have h9 := HNX.out.2.1; unfold i64ok at h9; omega) (by have := HBD.out; unfold maxLen; omega) lf hlf)
                        clear b23 T3 b3 z3 B2 N2 HC hlf
                        go_wp2_with fail
                        refine HTr.out.mono ?_
                        rintro r w4 ⟨rfl, P4, F4⟩
                        have R4 := HRL.out.trim j HJ.out.2 ⟨f, t, o, lf, lf⟩ (by rw [← HJ.out.1]; exact HMs.out) lf
                        rw [← HJ.out.1] at R4
                        have N4 := HNR.out.put N ⟨f, t, o, lf, lf⟩ (fun i ei => HNR.out N _ HMs.out i ei)
                        have m4 : mput M N ⟨f, t, o, lf, lf⟩ N = some ⟨f, t, o, lf, lf⟩ := by unfold mput; rw [if_pos rfl]
                        have e4 : cput C N ((C N).take lf) N = (C N).take (cput C N ((C N).take lf) N).length := by
                          unfold cput
                          rw [if_pos rfl, List.length_take]
                          exact List.take_eq_take_iff.2 (by omega)
                        generalize mput M N ⟨f, t, o, lf, lf⟩ = M4 at P4 R4 N4 m4
                        generalize cput C N ((C N).take lf) = C4 at P4 R4 e4
                        clear HTr
                        have HP4 := hide P4
                        have HH4 := hide (HH3.out.fw F4)
                        have O4 := HO3.out.fw F4 (by have := HW1.out; omega) (by have := HW1.out; omega)
                        have T4 := HT3.out.1.fw F4 HT3.out.2.1 HT3.out.2.2.1
                        have B4 := HT3.out.2.2.2.1.fw F4 HT3.out.2.2.2.2
                        have HR4 := hide R4
                        have HN4 := hide N4
                        have y2' := O4.c2
                        simp only at y2'
                        have HC4 := hide (look_yes P4 HNX.out.1 m4)
                        have HX4 := hide (And.intro O4 (And.intro T4 B4))
                        have HE4 := hide e4
                        clear P4 F4 R4 N4 m4 O4 T4 B4 e4 HH3 HP3 HT3 HO3
                        go_wp2_with fail
                        refine HC4.out.mono ?_
                        rintro r w5 ⟨bu, cu, rfl, B5, N5⟩
                        simp only at B5
                        obtain ⟨g5, hg5⟩ : ∃ g5, w5.heap.size = g5 := ⟨_, rfl⟩
                        obtain ⟨w6, hst6, T6, b6, z6⟩ := madeT w5 ⟨f, t, bu, lf, cu⟩ g5 hg5
                        rw [t0_cells] at hst6
                        have b56 := N5.1.trans (b6.mono N5.1.size)
                        have HP6 := hide (HP4.out.below b56)
                        have HH6 := hide (HH4.out.below b56)
                        have v2 := (HX4.out.2.1.below b56).c2
                        have tc2 := T6.c2
                        have o3 := (HX4.out.1.below b56).c3
                        have sA := (HX4.out.2.2.below b56).bs.str
                        have sB := (B5.below b6).bs.str
                        simp only at v2 tc2 o3
                        have HBe : Hid (∀ w, Calls Try.prog 9 #[.string (strOfNums (C N)), .string (strOfNums (C4 N))] w fun r w' => r = .returned (.bool true) ∧ w' = w) := fun w => begins_any (C N) (C4 N) HE4.out (by have h1 := HPq.out.row N _ HMs.out; have h2 := h1.bs.len; have h3 := h1.big; simp only at h2 h3; omega) w
                        have HE9 := hide HP6.out
                        have HEND : Hid (LO w0 w6 g mb (k + 1) (.slice (some ⟨b4, 0, none⟩) made c4) (.slice (some ⟨b5, 0, none⟩) made c5)) := ⟨made, (K + 1), M4, C4, F, S, _, _, _, _, HP6.out, HH6.out, HN4.out, HR4.out, by have := HBD.out; omega, by have := HBD.out; omega, HFL.out, rfl, rfl⟩
                        have HMa := hide HE9.out.made_any
                        clear B5 N5 T6 b6 z6 b56 HC4 HP4 HH4 HX4
                        have hX0 : 0 < X := by omega
                        go_wp2_with (first | (go_at_call 9; refine (HBe.out _).mono ?_; rintro r wy ⟨rfl, rfl⟩) | (go_at_call 14; refine HMa.out.mono ?_; rintro r wz ⟨rfl, rfl⟩))
                        go_roundw
                        case rel => exact ⟨k + 1, HLT.out, by rw [HK1.out], HEND⟩
                        case measure => rw [HK1.out]; have := HLT.out; simp [intOf]; omega
                      · obtain ⟨lf, hlf⟩ : ∃ lf : Nat, lf = ((n : Int) - X).toNat := ⟨_, rfl⟩
                        have HLF := hide hlf
                        have HTr := hide (trim_ok HP3.out HNX.out.1 HMs.out (cut := X) (by omega) (by have h9 := HNX.out.2.1; unfold i64ok at h9; omega) (by have := HBD.out; unfold maxLen; omega) lf hlf)
                        clear b23 T3 b3 z3 B2 N2 HC hlf
                        go_wp2_with fail
                        refine HTr.out.mono ?_
                        rintro r w4 ⟨rfl, P4, F4⟩
                        have R4 := HRL.out.trim j HJ.out.2 ⟨f, t, o, lf, lf⟩ (by rw [← HJ.out.1]; exact HMs.out) lf
                        rw [← HJ.out.1] at R4
                        have N4 := HNR.out.put N ⟨f, t, o, lf, lf⟩ (fun i ei => HNR.out N _ HMs.out i ei)
                        have m4 : mput M N ⟨f, t, o, lf, lf⟩ N = some ⟨f, t, o, lf, lf⟩ := by unfold mput; rw [if_pos rfl]
                        have e4 : cput C N ((C N).take lf) N = (C N).take (cput C N ((C N).take lf) N).length := by
                          unfold cput
                          rw [if_pos rfl, List.length_take]
                          exact List.take_eq_take_iff.2 (by omega)
                        generalize mput M N ⟨f, t, o, lf, lf⟩ = M4 at P4 R4 N4 m4
                        generalize cput C N ((C N).take lf) = C4 at P4 R4 e4
                        clear HTr
                        have HP4 := hide P4
                        have HH4 := hide (HH3.out.fw F4)
                        have O4 := HO3.out.fw F4 (by have := HW1.out; omega) (by have := HW1.out; omega)
                        have T4 := HT3.out.1.fw F4 HT3.out.2.1 HT3.out.2.2.1
                        have B4 := HT3.out.2.2.2.1.fw F4 HT3.out.2.2.2.2
                        have HR4 := hide R4
                        have HN4 := hide N4
                        have y2' := O4.c2
                        simp only at y2'
                        have HC4 := hide (look_yes P4 HNX.out.1 m4)
                        have HX4 := hide (And.intro O4 (And.intro T4 B4))
                        have HE4 := hide e4
                        clear P4 F4 R4 N4 m4 O4 T4 B4 e4 HH3 HP3 HT3 HO3
                        go_wp2_with fail
                        refine HC4.out.mono ?_
                        rintro r w5 ⟨bu, cu, rfl, B5, N5⟩
                        simp only at B5
                        obtain ⟨g5, hg5⟩ : ∃ g5, w5.heap.size = g5 := ⟨_, rfl⟩
                        obtain ⟨w6, hst6, T6, b6, z6⟩ := madeT w5 ⟨f, t, bu, lf, cu⟩ g5 hg5
                        rw [t0_cells] at hst6
                        have b56 := N5.1.trans (b6.mono N5.1.size)
                        have HP6 := hide (HP4.out.below b56)
                        have HH6 := hide (HH4.out.below b56)
                        have v2 := (HX4.out.2.1.below b56).c2
                        have tc2 := T6.c2
                        have o3 := (HX4.out.1.below b56).c3
                        have sA := (HX4.out.2.2.below b56).bs.str
                        have sB := (B5.below b6).bs.str
                        simp only at v2 tc2 o3
                        have HBe : Hid (∀ w, Calls Try.prog 9 #[.string (strOfNums (C N)), .string (strOfNums (C4 N))] w fun r w' => r = .returned (.bool true) ∧ w' = w) := fun w => begins_any (C N) (C4 N) HE4.out (by have h1 := HPq.out.row N _ HMs.out; have h2 := h1.bs.len; have h3 := h1.big; simp only at h2 h3; omega) w
                        have HE9 := hide HP6.out
                        have HEND : Hid (LO w0 w6 g mb (k + 1) (.slice (some ⟨b4, 0, none⟩) made c4) (.slice (some ⟨b5, 0, none⟩) made c5)) := ⟨made, (K + 1), M4, C4, F, S, _, _, _, _, HP6.out, HH6.out, HN4.out, HR4.out, by have := HBD.out; omega, by have := HBD.out; omega, HFL.out, rfl, rfl⟩
                        have HMa := hide HE9.out.made_any
                        clear B5 N5 T6 b6 z6 b56 HC4 HP4 HH4 HX4
                        have hX0 : 0 < X := by omega
                        have hn0 : (0 : Int) < (n : Int) := by omega
                        have hlfn : ¬ (n : Int) ≤ (lf : Int) := by have := HLF.out; omega
                        go_wp2_with (first | (go_at_call 9; refine (HBe.out _).mono ?_; rintro r wy ⟨rfl, rfl⟩) | (go_at_call 14; refine HMa.out.mono ?_; rintro r wz ⟨rfl, rfl⟩))
                        go_roundw
                        case rel => exact ⟨k + 1, HLT.out, by rw [HK1.out], HEND⟩
                        case measure => rw [HK1.out]; have := HLT.out; simp [intOf]; omega
                · skip
                  as_aux_lemma =>
                    have HE9 := hide (HPq.out)
                    have HEND : Hid (LO w0 wq g mb (k + 1) (.slice (some ⟨b4, 0, none⟩) made c4) (.slice (some ⟨b5, 0, none⟩) made c5)) := ⟨made, K, M, C, F, S, _, _, _, _, HE9.out, HHq.out, HNR.out, HRL.out, by have := HBD.out; omega, by have := HBD.out; omega, HFL.out, rfl, rfl⟩
                    have HMa := hide HE9.out.made_any
                    go_wp2_with fail
                    refine HMa.out.mono ?_
                    rintro r wz ⟨rfl, rfl⟩
                    go_wp2_with fail
                    go_roundw
                    case rel => exact ⟨k + 1, HLT.out, by rw [HK1.out], HEND⟩
                    case measure => rw [HK1.out]; have := HLT.out; simp [intOf]; omega
    · have HWt := hide (P.wait_any (by have := HS.out.big; omega))
      have HH := hide H
      have HRL := hide R
      have HMD : Hid (made ≤ 3518437208883) := by show _ ≤ _; have := HS.out.big; omega
      clear hma hKa hF N0 hk R P H
      go_wp2_with fail
      clear hlt
      refine HWt.out.mono ?_
      rintro r w3 ⟨v, rfl, hrow, b3⟩
      have hr0 := own_base hrow
      obtain ⟨av, cv, rfl⟩ := own_form hr0
      rw [show ((wl M made).length) = ((wl M made).map (Value.int .i64)).length by rw [List.length_map]] at hr0
      rw [List.length_map] at hr0
      have HV := hide hr0
      have HH3 := hide (HH.out.below b3)
      clear hrow hr0 b3 HWt HH
      go_wp2_with fail
      go_loopw [18, 19] (fun vk vn wr => ∃ (j kk : Nat) (n : Int), j ≤ made ∧ vk = .int .i64 kk ∧ vn = .int .i64 n ∧ Hid (kk = (wl M j).length ∧ n = (j : Int) + 1) ∧ wr = w3) (fun _ vn _ => made + 1 - (intOf vn).toNat)
      case atStart => exact ⟨0, 0, 1, Nat.zero_le _, rfl, rfl, ⟨rfl, rfl⟩, rfl⟩
      case round =>
        obtain ⟨j, kk, n, hj, rfl, rfl, HX, rfl⟩ := hrel
        have HJ := hide hj
        by_cases hlt : j < made
        · have HLT := hide hlt
          have hle : n ≤ (made : Int) := by have := HX.out.2; omega
          have hsub : wrap64 (n - 1) = (j : Int) := by have := HX.out.2; have := HMD.out; rw [w64 (by omega) (by omega)]; omega
          have HN1 : Hid (wrap64 (n + 1) = ((j + 1 : Nat) : Int) + 1) := by show _ = _; have := HX.out.2; have := HMD.out; rw [w64 (by omega) (by omega)]; omega
          obtain ⟨b5, rfl, hc5, -⟩ := HH3.out.rs.at j hlt
          have hSl : j < S.length := by rw [HRL.out.lenS]; exact hlt
          obtain ⟨sj, hsj⟩ : ∃ sj, S.getD j true = sj := ⟨_, rfl⟩
          have hsj' : S[j]? = some sj := by rw [← hsj, List.getD_eq_getElem?_getD, List.getElem?_eq_getElem hSl]; rfl
          rw [List.getElem?_map, hsj', Option.map_some] at hc5
          have hlv := HRL.out.live j hlt
          rw [hsj] at hlv
          clear hsj hsj' hSl
          cases sj with
          | true =>
            have HXN : Hid (kk = (wl M (j + 1)).length) := by
              show _ = _
              rw [wl_succ, if_neg (by rw [hlv]; decide), List.append_nil]
              exact HX.out.1
            clear hlv
            go_wp2_with fail
            go_roundw
            case rel => exact ⟨j + 1, kk, _, HLT.out, rfl, rfl, ⟨HXN.out, HN1.out⟩, trivial⟩
            case measure => rw [HN1.out]; have h1 := HX.out.2; have h2 := HLT.out; simp only [intOf]; omega
          | false =>
            have hal : (M ((j : Int) + 1)).isSome = true := by rw [hlv]; rfl
            have hwa := wl_at hlt hal
            rw [← HX.out.1, ← HX.out.2] at hwa
            have hkl : kk < (wl M made).length := (List.getElem?_eq_some_iff.1 hwa).1
            obtain ⟨bv, rfl, hcv, -⟩ := RW.at HV.out kk hkl
            rw [List.getElem?_map, hwa, Option.map_some] at hcv
            have hge : ¬ (((wl M made).length : Nat) : Int) ≤ (kk : Int) := by omega
            have HK2 : Hid (wrap64 ((kk : Int) + 1) = ((kk + 1 : Nat) : Int)) := by show _ = _; have := HMD.out; have := wl_len M made; rw [w64 (by omega) (by omega)]; rfl
            have HXN : Hid (kk + 1 = (wl M (j + 1)).length) := by
              show _ = _
              rw [wl_succ, if_pos hal, List.length_append, ← HX.out.1]
              rfl
            clear hlv hal hwa
            go_wp2_with fail
            go_roundw
            case rel => exact ⟨j + 1, kk + 1, _, HLT.out, by rw [HK2.out], rfl, ⟨HXN.out, HN1.out⟩, trivial⟩
            case measure => rw [HN1.out]; have h1 := HX.out.2; have h2 := HLT.out; simp only [intOf]; omega
        · have hgt : ¬ n ≤ (made : Int) := by have := HX.out.2; omega
          obtain ⟨rfl, -⟩ : kk = (wl M made).length ∧ True := by
            have h1 := HX.out.1
            obtain rfl : j = made := by omega
            exact ⟨h1, trivial⟩
          have HB := hide HH3.out.bel
          go_wp2_with fail
          go_ret
          exact ⟨rfl, HB.out⟩
end Go.Proofs.Ytichkohhngcpoaa
