/- SettleRounds: the law. -/
import Derived.Test.YtckehmhieigglaaERq
import Derived.Test.YtckehmhieigglaaECp
namespace Go.Proofs.Ytckehmhieigglaa
open Go.RowKit
variable {w w' w1 w2 w3 wr : World} {b n c : Nat} {F : List Sl} {X : List (List Pr)}

theorem rsP_len (n k : Nat) : (rsP n k).length = k := by
  induction k with
  | zero => rfl
  | succ k ih => rw [rsP, List.length_append, ih]; rfl
theorem rsP_row (n k i : Nat) (hi : i < k) : ((rsP n k).getD i []).length = n := by
  induction k with
  | zero => omega
  | succ k ih =>
    rw [rsP]
    by_cases h : i < k
    · rw [getD_snoc_lt _ _ _ _ (by rw [rsP_len]; exact h)]
      exact ih h
    · rw [getD_snoc_eq _ _ _ _ (by rw [rsP_len]; omega), roundP_len]
theorem map_getD {β γ : Type} (f : β → γ) (l : List β) (i : Nat) (z : β) (y : γ) (h : i < l.length) : (l.map f).getD i y = f (l.getD i z) := by simp [List.getD, h]
def mrk (i j : Nat) : Pr := ⟨-1 - (i : Int), (j : Int)⟩
theorem mrk_eq (i j : Nat) : mrk i j = ⟨-1 - (i : Int), (j : Int)⟩ := rfl
/-- the rows below k are marked, and of the row k the first j -/
structure Mk (X : List (List Pr)) (cnt n k j : Nat) : Prop where
  len : ∀ i, i < cnt → (X.getD i []).length = n
  row : ∀ i, i < k → i < cnt → ∀ q, q < n → (X.getD i []).getD q p0 = mrk i q
  now : ∀ q, q < j → (X.getD k []).getD q p0 = mrk k q
theorem Mk.next {cnt k j : Nat} (h : Mk X cnt n k j) (hk : k < cnt) (hX : X.length = cnt) (hj : j < n) : Mk (X.set k ((X.getD k []).set j (mrk k j))) cnt n k (j + 1) := by
  have hl := h.len k hk
  refine ⟨fun i hi => ?_, fun i hi hc q hq => ?_, fun q hq => ?_⟩
  · rw [getD_set _ _ _ _ _ (by omega)]
    split
    · rw [List.length_set]; exact hl
    · exact h.len i hi
  · rw [getD_set _ _ _ _ _ (by omega), if_neg (by omega)]
    exact h.row i hi hc q hq
  · rw [getD_set _ _ _ _ _ (by omega), if_pos rfl, getD_set _ _ _ _ _ (by omega)]
    by_cases e : q = j
    · rw [if_pos e, e]
    · rw [if_neg e]
      exact h.now q (by omega)
theorem Mk.turn {cnt k : Nat} (h : Mk X cnt n k n) : Mk X cnt n (k + 1) 0 :=
  ⟨h.len, fun i hi hc q hq => by
    by_cases e : i = k
    · subst e; exact h.now q hq
    · exact h.row i (by omega) hc q hq, fun q hq => by omega⟩
/-- the rows below k have grown, and the row k by j -/
structure Gr (X : List (List Pr)) (cnt n k j : Nat) : Prop where
  lo : ∀ i, i < cnt → n ≤ (X.getD i []).length
  hi : ∀ i, k < i → i < cnt → (X.getD i []).length = n
  at' : k < cnt → (X.getD k []).length = n + j
  row : ∀ i, i < cnt → ∀ q, q < n → (X.getD i []).getD q p0 = mrk i q
theorem Mk.gr {cnt : Nat} (h : Mk X cnt n cnt 0) : Gr X cnt n 0 0 :=
  ⟨fun i hi => by rw [h.len i hi]; omega, fun i _ hi => h.len i hi, fun hk => by rw [h.len 0 hk]; rfl, fun i hi q hq => h.row i hi hi q hq⟩
theorem Gr.next {cnt k j : Nat} (h : Gr X cnt n k j) (hk : k < cnt) (hX : X.length = cnt) (y : Pr) : Gr (X.set k (X.getD k [] ++ [y])) cnt n k (j + 1) := by
  have hl := h.at' hk
  refine ⟨fun i hi => ?_, fun i h1 h2 => ?_, fun _ => ?_, fun i hi q hq => ?_⟩
  · rw [getD_set _ _ _ _ _ (by omega)]
    split
    · rw [List.length_append]; omega
    · exact h.lo i hi
  · rw [getD_set _ _ _ _ _ (by omega), if_neg (by omega)]
    exact h.hi i h1 h2
  · rw [getD_set _ _ _ _ _ (by omega), if_pos rfl, List.length_append, hl]
    rfl
  · rw [getD_set _ _ _ _ _ (by omega)]
    split
    · rename_i e
      subst e
      rw [getD_snoc_lt _ _ _ _ (by omega)]
      exact h.row i hi q hq
    · exact h.row i hi q hq
theorem Gr.turn {cnt k j : Nat} (h : Gr X cnt n k j) : Gr X cnt n (k + 1) 0 :=
  ⟨h.lo, fun i h1 h2 => h.hi i (by omega) h2, fun hk => by rw [h.hi (k + 1) (by omega) hk]; rfl, h.row⟩
abbrev LP (w w1 w2 wr : World) (ao : Option Addr) (n c : Nat) (F : List Sl) (X : List (List Pr)) : Prop := LR rkP 22 [] w w1 w2 wr ao n c F X
variable {ao : Option Addr}
theorem RRP.cell {w0 : World} (h : RR rkP 22 [] w0 wr ao n c F X) (i : Nat) (hi : i < n) : ∃ b fa fn fc, ao = some ⟨b, 0, none⟩ ∧ F.getD i sl0 = ⟨fa, fn, fc⟩ ∧ wr.cell? ⟨b, i, none⟩ = some (.slice fa fn fc) ∧ PR wr fa fn fc (X.getD i []) := by
  obtain ⟨b, hb, hc, hf⟩ := h.out.at i hi
  exact ⟨b, _, _, _, hb, rfl, hc, h.row i hi⟩
theorem LP.put (h : LP w w1 w2 wr ao n c F X) (i : Nat) (hi : i < n) (j : Nat) (hj : j < (X.getD i []).length) (f t : Int) : ∃ b fb fn fc w3, ao = some ⟨b, 0, none⟩ ∧ F.getD i sl0 = ⟨some ⟨fb, 0, none⟩, fn, fc⟩ ∧ wr.cell? ⟨b, i, none⟩ = some (.slice (some ⟨fb, 0, none⟩) fn fc) ∧ fn = (X.getD i []).length ∧ (stP (.pointer (some ⟨fb, j * 2, none⟩)) (.agg #[.int .i64 f, .int .i64 t])).run Try.prog wr = .ok () w3 ∧ LP w w1 w2 w3 ao n c F (X.set i ((X.getD i []).set j ⟨f, t⟩)) := by
  obtain ⟨b, fa, fn, fc, hb, e, hc, hr⟩ := RRP.cell h.r i hi
  have hl := hr.len
  obtain ⟨fb, w3, rfl, hst, R, A⟩ := hr.put j (by omega) f t
  exact ⟨b, fb, fn, fc, w3, hb, e, hc, hl.symm, hst, LR.set h i hi (by rw [e]; exact R) (by rw [e]; exact A)⟩
attribute [local go_sem ↓] ldP_eq stP_eq
set_option maxRecDepth 100000 in
set_option maxHeartbeats 1600000 in
theorem settleRounds_any (r : Int) (w : World) : Calls Try.prog 4 #[.int .i64 r] w fun e w' => e = .returned (.bool true) ∧ Below w.heap.size w w' := by
  have H3 : Hid (∀ w, Calls Try.prog 12 #[.int .i64 3] w fun e w' => ∃ bo c, e = .returned (.slice bo 2 c) ∧ Below w.heap.size w w') := fun w => by
    refine (rounds_any 3 w).mono ?_
    rintro e w' ⟨bo, c, F, rfl, R⟩
    exact ⟨bo, c, rfl, R.newo.1⟩
  have HP : Hid (∀ w, Calls Try.prog 12 #[.int .i64 r] w fun e w' => RnA w w' (clN r) e) := rounds_any r
  have HQ : Hid (∀ w, Calls Try.prog 13 #[.int .i64 r] w fun e w' => RnQ w w' (clN r) e) := refRounds_any r
  have hn := (clN_le r).2
  obtain ⟨n, hnn⟩ : ∃ n, clN r = n := ⟨_, rfl⟩
  rw [hnn] at HP HQ hn
  clear hnn
  have hc4 : cN n ≤ 4 := by unfold cN; (repeat' split) <;> omega
  unfold RnA at HP
  unfold RnQ at HQ
  obtain ⟨cnt, hcnt⟩ : ∃ cnt, cN n = cnt := ⟨_, rfl⟩
  rw [hcnt] at HP HQ hc4
  clear hcnt
  have HL0 : Hid ((rsP n cnt).length = cnt) := rsP_len n cnt
  have HR0 : Hid (∀ i, i < cnt → ((rsP n cnt).getD i []).length = n) := rsP_row n cnt
  obtain ⟨X0, hX0⟩ : ∃ X0, rsP n cnt = X0 := ⟨_, rfl⟩
  rw [hX0] at HP HQ HL0 HR0
  clear hX0
  have HTq : Hid (∀ i, i < cnt → (X0.getD i []).map toQ = (X0.map (·.map toQ)).getD i []) := fun i hi => (map_getD (·.map toQ) X0 i [] [] (by rw [HL0.out]; exact hi)).symm
  obtain ⟨XQ, hXQ⟩ : ∃ XQ, X0.map (·.map toQ) = XQ := ⟨_, rfl⟩
  rw [hXQ] at HQ HTq
  clear hXQ
  go_enter Try.func4, Try.ntmps4
  go_wp2_with (first
    | (go_at_call 13; refine (HQ.out _).mono ?_; rintro e w2 ⟨b2, c2, F2, rfl, R2⟩; have HL2 := hide (LR.begin HR1.out R2.newo.1); have HW := hide R2.rt; clear R2 HR1)
    | (have hh := HL2.out; clear hh; go_at_call 12; refine (H3.out _).mono ?_; rintro e w3 ⟨b3, c3, rfl, B3⟩; have HL3 := hide (HL2.out.below B3); clear B3 HL2)
    | (go_at_call 12; refine (HP.out _).mono ?_; rintro e w1 ⟨b1, c1, F1, rfl, R1⟩; have HR1 := hide R1; clear R1))
  clear H3 HQ
  go_loopw [29] (fun i wr => ∃ k : Nat, k ≤ cnt ∧ i = .int .i64 k ∧ Hid (LP w w1 w2 wr b1 cnt c1 F1 X0)) (fun i _ => cnt - (intOf i).toNat)
  case atStart => exact ⟨0, Nat.zero_le _, rfl, HL3⟩
  case round =>
    clear HL3
    obtain ⟨k, hk, rfl, HL⟩ := hrel
    by_cases hlt : k < cnt
    · have HL5 := hide (HL.out.below (below_drew1 wr))
      obtain ⟨bb, fa, fn, fc, rfl, -, c1', s1⟩ := RRP.cell HL5.out.r k hlt
      obtain ⟨qb, ha, hb, hc, rfl, c2', s2⟩ := HW.out.read HL5.out.stay k hlt
      have HS1 := hide s1
      have HS2 : Hid (QR wr.drew ha hb hc (XQ.getD k [])) := s2
      have HC1 := hide c1'
      have HC2 := hide c2'
      clear s1 s2 c1' c2'
      go_wp2_with fail
      refine wp_region_held_drew (S := fun W => W.cell? ⟨bb, k, none⟩ = some (.slice fa fn fc) ∧ W.cell? ⟨qb, k, none⟩ = some (.slice ha hb hc)) (by kernel_rfl) (⟨HC1.out, HC2.out⟩) (fun hHeld => ?_)
      refine wpAnyH_take (i := 0) (oi := { dst := some 32, op := Op.move (Operand.tmp 3), type := 30, pos := "law.go:114", after := #[], guard := none }) (v := ?_) rfl (by kernel_rfl) (by kernel_rfl) (by kernel_rfl) (fun _ _ _ h => h) (Or.inl ⟨by rfl, ?_⟩) (by assumption) ?_
      rotate_left
      · (intro w hSw; (try dsimp only at hSw); go_simp); first | done | with_reducible rfl
      simp only [Act.put, List.setIfInBounds_toArray, List.set_cons_zero, List.set_cons_succ]
      refine wpAnyH_take (i := 1) (oi := { dst := some 33, op := Op.move (Operand.tmp 5), type := 3, pos := "law.go:114", after := #[], guard := none }) (v := ?_) rfl (by kernel_rfl) (by kernel_rfl) (by kernel_rfl) (fun _ _ _ h => h) (Or.inl ⟨by rfl, ?_⟩) (by assumption) ?_
      rotate_left
      · (intro w hSw; (try dsimp only at hSw); go_simp); first | done | with_reducible rfl
      simp only [Act.put, List.setIfInBounds_toArray, List.set_cons_zero, List.set_cons_succ]
      refine wpAnyH_take (i := 2) (oi := { dst := some 34, op := Op.indexAddr 30 (Operand.tmp 32) (Operand.tmp 33), type := 0, pos := "law.go:114", after := #[{ on := 0, ground := Ground.data }, { on := 1, ground := Ground.data }], guard := none }) (v := ?_) rfl (by kernel_rfl) (by kernel_rfl) (by kernel_rfl) (fun _ _ _ h => h) (Or.inl ⟨by rfl, ?_⟩) (by assumption) ?_
      rotate_left
      · (intro w hSw; (try dsimp only at hSw); go_simp); first | done | with_reducible rfl
      simp only [Act.put, List.setIfInBounds_toArray, List.set_cons_zero, List.set_cons_succ]
      refine wpAnyH_take (i := 3) (oi := { dst := some 35, op := Op.load 22 (Operand.tmp 34), type := 22, pos := "law.go:114", after := #[{ on := 2, ground := Ground.data }], guard := none }) (v := ?_) rfl (by kernel_rfl) (by kernel_rfl) (by kernel_rfl) (fun _ _ _ h => h) (Or.inl ⟨by rfl, ?_⟩) (by assumption) ?_
      rotate_left
      · (intro w hSw; (try dsimp only at hSw); go_simp); first | done | with_reducible rfl
      simp only [Act.put, List.setIfInBounds_toArray, List.set_cons_zero, List.set_cons_succ]
      refine wpAnyH_take (i := 4) (oi := { dst := some 36, op := Op.move (Operand.tmp 4), type := 32, pos := "law.go:114", after := #[], guard := none }) (v := ?_) rfl (by kernel_rfl) (by kernel_rfl) (by kernel_rfl) (fun _ _ _ h => h) (Or.inl ⟨by rfl, ?_⟩) (by assumption) ?_
      rotate_left
      · (intro w hSw; (try dsimp only at hSw); go_simp); first | done | with_reducible rfl
      simp only [Act.put, List.setIfInBounds_toArray, List.set_cons_zero, List.set_cons_succ]
      refine wpAnyH_take (i := 5) (oi := { dst := some 37, op := Op.move (Operand.tmp 5), type := 3, pos := "law.go:114", after := #[], guard := none }) (v := ?_) rfl (by kernel_rfl) (by kernel_rfl) (by kernel_rfl) (fun _ _ _ h => h) (Or.inl ⟨by rfl, ?_⟩) (by assumption) ?_
      rotate_left
      · (intro w hSw; (try dsimp only at hSw); go_simp); first | done | with_reducible rfl
      simp only [Act.put, List.setIfInBounds_toArray, List.set_cons_zero, List.set_cons_succ]
      refine wpAnyH_take (i := 6) (oi := { dst := some 38, op := Op.indexAddr 32 (Operand.tmp 36) (Operand.tmp 37), type := 0, pos := "law.go:114", after := #[{ on := 4, ground := Ground.data }, { on := 5, ground := Ground.data }], guard := none }) (v := ?_) rfl (by kernel_rfl) (by kernel_rfl) (by kernel_rfl) (fun _ _ _ h => h) (Or.inl ⟨by rfl, ?_⟩) (by assumption) ?_
      rotate_left
      · (intro w hSw; (try dsimp only at hSw); go_simp); first | done | with_reducible rfl
      simp only [Act.put, List.setIfInBounds_toArray, List.set_cons_zero, List.set_cons_succ]
      refine wpAnyH_take (i := 7) (oi := { dst := some 39, op := Op.load 24 (Operand.tmp 38), type := 24, pos := "law.go:114", after := #[{ on := 6, ground := Ground.data }], guard := none }) (v := ?_) rfl (by kernel_rfl) (by kernel_rfl) (by kernel_rfl) (fun _ _ _ h => h) (Or.inl ⟨by rfl, ?_⟩) (by assumption) ?_
      rotate_left
      · (intro w hSw; (try dsimp only at hSw); go_simp); first | done | with_reducible rfl
      simp only [Act.put, List.setIfInBounds_toArray, List.set_cons_zero, List.set_cons_succ]
      refine wpAnyH_ready (rs := [8]) (by kernel_rfl) (by simp) ?_
      refine AllReadyH.cons rfl (fun K hK => ?_) ?_
      rotate_left
      · exact AllReadyH.nil
      go_simp
      go_wp2_with fail
      refine (samePairs_true fa fn fc _ ha hb hc _ _ HS1.out.src HS2.out.src (HTq.out k hlt) (by have := HS1.out.len; have := HR0.out k hlt; omega)).mono ?_
      rintro e w6 ⟨rfl, b6⟩
      have HL6 := hide (HL5.out.below b6)
      refine hK.out _ _ ⟨(b6.cell (World.block_lt_of_cell? _ _ HC1.out)).trans HC1.out, (b6.cell (World.block_lt_of_cell? _ _ HC2.out)).trans HC2.out⟩ (fun hHeld => ?_)
      clear hK K b6
      refine wpAnyH_take (i := 9) (oi := { dst := some 41, op := Op.unOp UnOp.not 4 (Operand.tmp 40), type := 4, pos := "law.go:114", after := #[{ on := 8, ground := Ground.data }], guard := none }) (v := ?_) rfl (by kernel_rfl) (by kernel_rfl) (by kernel_rfl) (fun _ _ _ h => h) (Or.inl ⟨by rfl, ?_⟩) (by assumption) ?_
      rotate_left
      · (intro w hSw; (try dsimp only at hSw); go_simp); first | done | with_reducible rfl
      simp only [Act.put, List.setIfInBounds_toArray, List.set_cons_zero, List.set_cons_succ]
      refine wpAnyH_done (by kernel_rfl) ?_ _
      clear hHeld
      clear HL HL5 HS1 HS2 HC1 HC2
      go_wp2_with fail
      go_roundw
      case rel => exact ⟨k + 1, by omega, by go_num, HL6⟩
      case measure => simp [intOf]; omega
    · go_wp2_with fail
      go_loopw [45] (fun i wr => ∃ (k : Nat) (X : List (List Pr)), k ≤ cnt ∧ i = .int .i64 k ∧ Hid (Mk X cnt n k 0) ∧ Hid (LP w w1 w2 wr b1 cnt c1 F1 X)) (fun i _ => cnt - (intOf i).toNat)
      case atStart => exact ⟨0, X0, Nat.zero_le _, rfl, ⟨HR0.out, (fun i hi => by omega), (fun q hq => by omega)⟩, HL⟩
      case round =>
        clear HL
        obtain ⟨k, X, hk, rfl, HMk, HL⟩ := hrel
        by_cases hlt : k < cnt
        · obtain ⟨bb, fa, fn, fc, rfl, -, c1', s1⟩ := RRP.cell HL.out.r k hlt
          obtain rfl : fn = n := by have := s1.len; have := HMk.out.len k hlt; omega
          clear s1
          go_wp2_with fail
          clear c1'
          go_loopw [53] (fun i wr => ∃ (j : Nat) (X : List (List Pr)), j ≤ fn ∧ i = .int .i64 j ∧ Hid (Mk X cnt fn k j) ∧ Hid (LP w w1 w2 wr (some ⟨bb, 0, none⟩) cnt c1 F1 X)) (fun i _ => fn - (intOf i).toNat)
          case atStart => exact ⟨0, X, Nat.zero_le _, rfl, HMk, HL⟩
          case round =>
            clear HL HMk
            obtain ⟨j, X, hj, rfl, HMk, HL⟩ := hrel
            by_cases hl2 : j < fn
            · obtain ⟨b', fb, fm, fc', w5, eb, -, cc, efm, hst, L5⟩ := LP.put HL.out k hlt j (by rw [HMk.out.len k hlt]; exact hl2) (-1 - (k : Int)) (j : Int)
              obtain rfl : bb = b' := by cases eb; rfl
              obtain rfl : fm = fn := by rw [efm]; exact HMk.out.len k hlt
              have HL5 := hide L5
              have HM5 := hide (HMk.out.next hlt HL.out.r.len hl2)
              have hk' : (k : Int) ≤ 4 := by omega
              clear L5 HL HMk eb efm
              go_wp2_with fail
              go_roundw
              case rel => exact ⟨j + 1, _, by omega, by go_num, HM5, HL5⟩
              case measure => simp [intOf]; omega
            · obtain rfl : j = fn := by omega
              go_wp2_with fail
              go_roundw
              case rel => exact ⟨k + 1, X, by omega, by go_num, HMk.out.turn, HL⟩
              case measure => simp [intOf]; omega
        · obtain rfl : k = cnt := by omega
          go_wp2_with fail
          go_loopw [70] (fun i wr => ∃ (q : Nat) (F : List Sl) (X : List (List Pr)), q ≤ k ∧ i = .int .i64 q ∧ Hid (Gr X k n q 0) ∧ Hid (LP w w1 w2 wr b1 k c1 F X)) (fun i _ => k - (intOf i).toNat)
          case atStart => exact ⟨0, F1, X, Nat.zero_le _, rfl, HMk.out.gr, HL⟩
          case round =>
            clear HL HMk
            obtain ⟨q, F, X, hq, rfl, HGr, HL⟩ := hrel
            by_cases hlt : q < k
            · obtain ⟨bb, -, -, -, rfl, -, -, -⟩ := RRP.cell HL.out.r q hlt
              go_wp2_with fail
              go_loopw [73] (fun i wr => ∃ (j : Nat) (F : List Sl) (X : List (List Pr)), j ≤ 40 ∧ i = .int .i64 j ∧ Hid (Gr X k n q j) ∧ Hid (LP w w1 w2 wr (some ⟨bb, 0, none⟩) k c1 F X)) (fun i _ => 40 - (intOf i).toNat)
              case atStart => exact ⟨0, F, X, Nat.zero_le _, rfl, HGr, HL⟩
              case round =>
                clear HL HGr
                obtain ⟨j, F, X, hj, rfl, HGr, HL⟩ := hrel
                by_cases hl2 : j < 40
                · obtain ⟨b', fa, fn, fc, eb, eF, cc, hr⟩ := RRP.cell HL.out.r q hlt
                  obtain rfl : bb = b' := by cases eb; rfl
                  have HR := hide hr
                  have HN : Hid (fn + 1 ≤ 8796093022108) := by show _ ≤ _; have := hr.len; have := HGr.out.at' hlt; omega
                  have HA : Hid (∀ (w5 : World) (bo : Option Addr) (m c2 : Nat) (x : List Pr), PR w5 bo m c2 x → Ap wr w5 fa bo → LP w w1 w2 (w5.setCell ⟨bb, q, none⟩ (.slice bo m c2)) (some ⟨bb, 0, none⟩) k c1 (F.set q ⟨bo, m, c2⟩) (X.set q x) ∧ w5.cell? ⟨bb, q, none⟩ = some (.slice fa fn fc) ∧ w5.frozen? ⟨bb, q, none⟩ = false) := fun w5 bo m c2 x hx a => by
                    have ha : Ap wr w5 (F.getD q sl0).a bo := by rw [eF]; exact a
                    have g := HL.out.r.grow (ρ := rkP) q hlt (m := m) (c2 := c2) (x := x) hx ha
                    rw [eF] at g
                    exact ⟨LR.grow (ρ := rkP) HL.out q hlt hx ha, g.2.1, g.2.2⟩
                  have HG2 := hide (HGr.out.next hlt HL.out.r.len ⟨-100 - (q : Int), 0⟩)
                  have hq' : (q : Int) ≤ 4 := by omega
                  clear hr HL HGr eb eF
                  go_wp2_with (at_builtin; refine HR.out.app (L := [⟨-100 - (q : Int), 0⟩]) (m := 1) rfl (pcs_lit _ _) HN.out rfl (.tmp 80) (.tmp 84) rfl rfl rfl ?_; intro b5 c5 w5 R5 A5; obtain ⟨L5, d5, f5⟩ := HA.out w5 b5 (fn + 1) c5 _ R5 A5; have HL5 := hide L5; clear R5 A5 L5)
                  go_roundw
                  case rel => exact ⟨j + 1, _, _, by omega, by go_num, HG2, HL5⟩
                  case measure => simp [intOf]; omega
                · obtain rfl : j = 40 := by omega
                  go_wp2_with fail
                  go_roundw
                  case rel => exact ⟨q + 1, F, X, by omega, by go_num, HGr.out.turn, HL⟩
                  case measure => simp [intOf]; omega
            · go_wp2_with fail
              go_loopw [91] (fun i wr => ∃ p : Nat, p ≤ k ∧ i = .int .i64 p ∧ Hid (LP w w1 w2 wr b1 k c1 F X)) (fun i _ => k - (intOf i).toNat)
              case atStart => exact ⟨0, Nat.zero_le _, rfl, HL⟩
              case round =>
                clear HL
                obtain ⟨p, hp, rfl, HL⟩ := hrel
                by_cases hlt : p < k
                · obtain ⟨qb, ha, hb, hc, rfl, c2', s2⟩ := HW.out.read HL.out.stay p hlt
                  obtain rfl : hb = n := by
                    have e1 := QR.len (show QR wr ha hb hc (XQ.getD p []) from s2)
                    rw [← HTq.out p hlt, List.length_map, HR0.out p hlt] at e1
                    exact e1.symm
                  clear s2
                  obtain ⟨bb, fa, fn, fc, rfl, -, c1', s1⟩ := RRP.cell HL.out.r p hlt
                  have HS1 := hide s1
                  have HC1 := hide c1'
                  clear s1 c1'
                  go_wp2_with fail
                  clear c2'
                  go_loopw [99] (fun i wi => ∃ j : Nat, j ≤ hb ∧ i = .int .i64 j ∧ wr = wi) (fun i _ => hb - (intOf i).toNat)
                  case atStart => exact ⟨0, Nat.zero_le _, rfl, rfl⟩
                  case round =>
                    obtain ⟨j, hj, rfl, rfl⟩ := hrel
                    by_cases hl2 : j < hb
                    · have hjl : j < fn := by have := HS1.out.len; have := HGr.out.lo p hlt; omega
                      obtain ⟨fb, rfl, x⟩ := HS1.out.at j hjl
                      rw [HGr.out.row p hlt j hl2] at x
                      have cc := HC1.out
                      have x0 : (ldP (.pointer (some ⟨fb, j * 2, none⟩))).run Try.prog wr = .ok (.agg #[.int .i64 (-1 - (p : Int)), .int .i64 (j : Int)]) wr := run_laP x
                      have e1 : ∀ w : World, (binOp .neq 28 (.agg #[.int .i64 (-1 - (p : Int)), .int .i64 (j : Int)]) (.agg #[.int .i64 (-1 - (p : Int)), .int .i64 (j : Int)])).run Try.prog w = .ok (.bool false) w := run_neP _ _
                      have e2 : ∀ (o p' : Operand) (w : World), (eqGuard .neq 28 o p' (.agg #[.int .i64 (-1 - (p : Int)), .int .i64 (j : Int)]) (.agg #[.int .i64 (-1 - (p : Int)), .int .i64 (j : Int)])).run Try.prog w = .ok () w := run_egP _ _
                      have hp' : (p : Int) ≤ 4 := by omega
                      clear x
                      go_wp2_with fail
                      go_roundw
                      case rel => exact ⟨j + 1, by omega, by go_num, trivial⟩
                      case measure => simp [intOf]; omega
                    · go_wp2_with fail
                      go_roundw
                      case rel => exact ⟨p + 1, by omega, by go_num, HL⟩
                      case measure => simp [intOf]; omega
                · go_wp2_with (go_at_call 12; refine (HP.out _).mono ?_; rintro e w9 ⟨b9, c9, F9, rfl, R9⟩; have HR9 := hide R9; have HL9 := hide (HL.out.below R9.newo.1); clear R9)
                  clear HL HP
                  go_loopw [120] (fun i wi => ∃ p : Nat, p ≤ k ∧ i = .int .i64 p ∧ Hid (Below w9.heap.size w9 wi)) (fun i _ => k - (intOf i).toNat)
                  case atStart => exact ⟨0, Nat.zero_le _, rfl, Below.refl _ _⟩
                  case round =>
                    obtain ⟨p, hp, rfl, HB⟩ := hrel
                    by_cases hlt : p < k
                    · have HB5 := hide (HB.out.trans ((below_drew1 _).mono HB.out.size))
                      have HL5 := hide (HL9.out.below HB5.out)
                      obtain ⟨bb, fa, fn, fc, rfl, -, c1', s1⟩ := RRP.cell (HR9.out.below HB5.out) p hlt
                      obtain ⟨qb, ha, hb, hc, rfl, c2', s2⟩ := HW.out.read HL5.out.stay p hlt
                      have HS1 := hide s1
                      have HS2 : Hid (QR _ ha hb hc (XQ.getD p [])) := s2
                      have HC1 := hide c1'
                      have HC2 := hide c2'
                      clear s1 s2 c1' c2'
                      go_wp2_with fail
                      refine wp_region_held_drew (S := fun W => W.cell? ⟨bb, p, none⟩ = some (.slice fa fn fc) ∧ W.cell? ⟨qb, p, none⟩ = some (.slice ha hb hc)) (by kernel_rfl) (⟨HC1.out, HC2.out⟩) (fun hHeld => ?_)
                      refine wpAnyH_take (i := 0) (oi := { dst := some 123, op := Op.move (Operand.tmp 11), type := 30, pos := "law.go:137", after := #[], guard := none }) (v := ?_) rfl (by kernel_rfl) (by kernel_rfl) (by kernel_rfl) (fun _ _ _ h => h) (Or.inl ⟨by rfl, ?_⟩) (by assumption) ?_
                      rotate_left
                      · (intro w hSw; (try dsimp only at hSw); go_simp); first | done | with_reducible rfl
                      simp only [Act.put, List.setIfInBounds_toArray, List.set_cons_zero, List.set_cons_succ]
                      refine wpAnyH_take (i := 1) (oi := { dst := some 124, op := Op.call { callee := Callee.builtin Builtin.len, args := #[Operand.tmp 123], argTypes := #[30] }, type := 3, pos := "law.go:137", after := #[{ on := 0, ground := Ground.data }], guard := none }) (v := ?_) rfl (by kernel_rfl) (by kernel_rfl) (by kernel_rfl) (fun _ _ _ h => h) (Or.inl ⟨by rfl, ?_⟩) (by assumption) ?_
                      rotate_left
                      · (intro w hSw; (try dsimp only at hSw); go_simp); first | done | with_reducible rfl
                      simp only [Act.put, List.setIfInBounds_toArray, List.set_cons_zero, List.set_cons_succ]
                      refine wpAnyH_take (i := 2) (oi := { dst := some 125, op := Op.move (Operand.tmp 4), type := 32, pos := "law.go:137", after := #[], guard := none }) (v := ?_) rfl (by kernel_rfl) (by kernel_rfl) (by kernel_rfl) (fun _ _ _ h => h) (Or.inl ⟨by rfl, ?_⟩) (by assumption) ?_
                      rotate_left
                      · (intro w hSw; (try dsimp only at hSw); go_simp); first | done | with_reducible rfl
                      simp only [Act.put, List.setIfInBounds_toArray, List.set_cons_zero, List.set_cons_succ]
                      refine wpAnyH_take (i := 3) (oi := { dst := some 126, op := Op.call { callee := Callee.builtin Builtin.len, args := #[Operand.tmp 125], argTypes := #[32] }, type := 3, pos := "law.go:137", after := #[{ on := 2, ground := Ground.data }], guard := none }) (v := ?_) rfl (by kernel_rfl) (by kernel_rfl) (by kernel_rfl) (fun _ _ _ h => h) (Or.inl ⟨by rfl, ?_⟩) (by assumption) ?_
                      rotate_left
                      · (intro w hSw; (try dsimp only at hSw); go_simp); first | done | with_reducible rfl
                      simp only [Act.put, List.setIfInBounds_toArray, List.set_cons_zero, List.set_cons_succ]
                      refine wpAnyH_take (i := 4) (oi := { dst := some 127, op := Op.binOp BinOp.neq 3 (Operand.tmp 124) (Operand.tmp 126) 3, type := 4, pos := "law.go:137", after := #[{ on := 1, ground := Ground.data }, { on := 3, ground := Ground.data }], guard := none }) (v := ?_) rfl (by kernel_rfl) (by kernel_rfl) (by kernel_rfl) (fun _ _ _ h => h) (Or.inl ⟨by rfl, ?_⟩) (by assumption) ?_
                      rotate_left
                      · (intro w hSw; (try dsimp only at hSw); go_simp); first | done | with_reducible rfl
                      simp only [Act.put, List.setIfInBounds_toArray, List.set_cons_zero, List.set_cons_succ]
                      refine wpAnyH_take (i := 5) (oi := { dst := some 128, op := Op.move (Operand.tmp 127), type := 4, pos := "law.go:137", after := #[{ on := 4, ground := Ground.data }], guard := none }) (v := ?_) rfl (by kernel_rfl) (by kernel_rfl) (by kernel_rfl) (fun _ _ _ h => h) (Or.inl ⟨by rfl, ?_⟩) (by assumption) ?_
                      rotate_left
                      · (intro w hSw; (try dsimp only at hSw); go_simp); first | done | with_reducible rfl
                      simp only [Act.put, List.setIfInBounds_toArray, List.set_cons_zero, List.set_cons_succ]
                      refine wpAnyH_take (i := 6) (oi := { dst := some 129, op := Op.move (Operand.tmp 11), type := 30, pos := "law.go:137", after := #[{ on := 5, ground := Ground.guard }], guard := some (5, false) }) (v := ?_) rfl (by kernel_rfl) (by kernel_rfl) (by kernel_rfl) (fun _ _ _ h => h) (Or.inl ⟨by rfl, ?_⟩) (by assumption) ?_
                      rotate_left
                      · (intro w hSw; (try dsimp only at hSw); go_simp); first | done | with_reducible rfl
                      simp only [Act.put, List.setIfInBounds_toArray, List.set_cons_zero, List.set_cons_succ]
                      refine wpAnyH_take (i := 7) (oi := { dst := some 130, op := Op.move (Operand.tmp 12), type := 3, pos := "law.go:137", after := #[{ on := 5, ground := Ground.guard }], guard := some (5, false) }) (v := ?_) rfl (by kernel_rfl) (by kernel_rfl) (by kernel_rfl) (fun _ _ _ h => h) (Or.inl ⟨by rfl, ?_⟩) (by assumption) ?_
                      rotate_left
                      · (intro w hSw; (try dsimp only at hSw); go_simp); first | done | with_reducible rfl
                      simp only [Act.put, List.setIfInBounds_toArray, List.set_cons_zero, List.set_cons_succ]
                      refine wpAnyH_take (i := 8) (oi := { dst := some 131, op := Op.indexAddr 30 (Operand.tmp 129) (Operand.tmp 130), type := 0, pos := "law.go:137", after := #[{ on := 6, ground := Ground.data }, { on := 7, ground := Ground.data }, { on := 5, ground := Ground.guard }], guard := some (5, false) }) (v := ?_) rfl (by kernel_rfl) (by kernel_rfl) (by kernel_rfl) (fun _ _ _ h => h) (Or.inl ⟨by rfl, ?_⟩) (by assumption) ?_
                      rotate_left
                      · (intro w hSw; (try dsimp only at hSw); go_simp); first | done | with_reducible rfl
                      simp only [Act.put, List.setIfInBounds_toArray, List.set_cons_zero, List.set_cons_succ]
                      refine wpAnyH_take (i := 9) (oi := { dst := some 132, op := Op.load 22 (Operand.tmp 131), type := 22, pos := "law.go:137", after := #[{ on := 8, ground := Ground.data }, { on := 5, ground := Ground.guard }], guard := some (5, false) }) (v := ?_) rfl (by kernel_rfl) (by kernel_rfl) (by kernel_rfl) (fun _ _ _ h => h) (Or.inl ⟨by rfl, ?_⟩) (by assumption) ?_
                      rotate_left
                      · (intro w hSw; (try dsimp only at hSw); go_simp); first | done | with_reducible rfl
                      simp only [Act.put, List.setIfInBounds_toArray, List.set_cons_zero, List.set_cons_succ]
                      refine wpAnyH_take (i := 10) (oi := { dst := some 133, op := Op.move (Operand.tmp 4), type := 32, pos := "law.go:137", after := #[{ on := 5, ground := Ground.guard }], guard := some (5, false) }) (v := ?_) rfl (by kernel_rfl) (by kernel_rfl) (by kernel_rfl) (fun _ _ _ h => h) (Or.inl ⟨by rfl, ?_⟩) (by assumption) ?_
                      rotate_left
                      · (intro w hSw; (try dsimp only at hSw); go_simp); first | done | with_reducible rfl
                      simp only [Act.put, List.setIfInBounds_toArray, List.set_cons_zero, List.set_cons_succ]
                      refine wpAnyH_take (i := 11) (oi := { dst := some 134, op := Op.move (Operand.tmp 12), type := 3, pos := "law.go:137", after := #[{ on := 5, ground := Ground.guard }], guard := some (5, false) }) (v := ?_) rfl (by kernel_rfl) (by kernel_rfl) (by kernel_rfl) (fun _ _ _ h => h) (Or.inl ⟨by rfl, ?_⟩) (by assumption) ?_
                      rotate_left
                      · (intro w hSw; (try dsimp only at hSw); go_simp); first | done | with_reducible rfl
                      simp only [Act.put, List.setIfInBounds_toArray, List.set_cons_zero, List.set_cons_succ]
                      refine wpAnyH_take (i := 12) (oi := { dst := some 135, op := Op.indexAddr 32 (Operand.tmp 133) (Operand.tmp 134), type := 0, pos := "law.go:137", after := #[{ on := 10, ground := Ground.data }, { on := 11, ground := Ground.data }, { on := 5, ground := Ground.guard }], guard := some (5, false) }) (v := ?_) rfl (by kernel_rfl) (by kernel_rfl) (by kernel_rfl) (fun _ _ _ h => h) (Or.inl ⟨by rfl, ?_⟩) (by assumption) ?_
                      rotate_left
                      · (intro w hSw; (try dsimp only at hSw); go_simp); first | done | with_reducible rfl
                      simp only [Act.put, List.setIfInBounds_toArray, List.set_cons_zero, List.set_cons_succ]
                      refine wpAnyH_take (i := 13) (oi := { dst := some 136, op := Op.load 24 (Operand.tmp 135), type := 24, pos := "law.go:137", after := #[{ on := 12, ground := Ground.data }, { on := 5, ground := Ground.guard }], guard := some (5, false) }) (v := ?_) rfl (by kernel_rfl) (by kernel_rfl) (by kernel_rfl) (fun _ _ _ h => h) (Or.inl ⟨by rfl, ?_⟩) (by assumption) ?_
                      rotate_left
                      · (intro w hSw; (try dsimp only at hSw); go_simp); first | done | with_reducible rfl
                      simp only [Act.put, List.setIfInBounds_toArray, List.set_cons_zero, List.set_cons_succ]
                      refine wpAnyH_ready (rs := [14]) (by kernel_rfl) (by simp) ?_
                      refine AllReadyH.cons rfl (fun K hK => ?_) ?_
                      rotate_left
                      · exact AllReadyH.nil
                      go_simp
                      go_wp2_with fail
                      refine (samePairs_true fa fn fc _ ha hb hc _ _ HS1.out.src HS2.out.src (HTq.out p hlt) (by have := HS1.out.len; have := HR0.out p hlt; omega)).mono ?_
                      rintro e w6 ⟨rfl, b6⟩
                      have HB6 := hide (HB5.out.trans (b6.mono HB5.out.size))
                      refine hK.out _ _ ⟨(b6.cell (World.block_lt_of_cell? _ _ HC1.out)).trans HC1.out, (b6.cell (World.block_lt_of_cell? _ _ HC2.out)).trans HC2.out⟩ (fun hHeld => ?_)
                      clear hK K b6
                      refine wpAnyH_take (i := 15) (oi := { dst := some 138, op := Op.unOp UnOp.not 4 (Operand.tmp 137), type := 4, pos := "law.go:137", after := #[{ on := 14, ground := Ground.data }, { on := 5, ground := Ground.guard }], guard := some (5, false) }) (v := ?_) rfl (by kernel_rfl) (by kernel_rfl) (by kernel_rfl) (fun _ _ _ h => h) (Or.inl ⟨by rfl, ?_⟩) (by assumption) ?_
                      rotate_left
                      · (intro w hSw; (try dsimp only at hSw); go_simp); first | done | with_reducible rfl
                      simp only [Act.put, List.setIfInBounds_toArray, List.set_cons_zero, List.set_cons_succ]
                      refine wpAnyH_take (i := 16) (oi := { dst := some 139, op := Op.pick (Operand.tmp 128) (Operand.const (Value.bool true)) (Operand.tmp 138), type := 4, pos := "law.go:137", after := #[{ on := 5, ground := Ground.data }, { on := 15, ground := Ground.data }], guard := none }) (v := ?_) rfl (by kernel_rfl) (by kernel_rfl) (by kernel_rfl) (fun _ _ _ h => h) (Or.inl ⟨by rfl, ?_⟩) (by assumption) ?_
                      rotate_left
                      · (intro w hSw; (try dsimp only at hSw); go_simp); first | done | with_reducible rfl
                      simp only [Act.put, List.setIfInBounds_toArray, List.set_cons_zero, List.set_cons_succ]
                      refine wpAnyH_done (by kernel_rfl) ?_ _
                      clear hHeld
                      clear HB HB5 HL5 HS1 HS2 HC1 HC2
                      go_wp2_with fail
                      go_roundw
                      case rel => exact ⟨p + 1, by omega, by go_num, HB6⟩
                      case measure => simp [intOf]; omega
                    · go_wp2_with fail
                      go_ret
                      exact ⟨rfl, HL9.out.r.newo.1.trans (HB.out.mono HL9.out.r.newo.1.size)⟩
end Go.Proofs.Ytckehmhieigglaa
