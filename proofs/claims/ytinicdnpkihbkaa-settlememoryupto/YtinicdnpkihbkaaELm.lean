/- SettleMemory: the law. -/
import Derived.Test.YtinicdnpkihbkaaEAs
namespace Go.Proofs.Ytinicdnpkihbkaa
open Go.RowKit
variable {w wg wr w3 : World} {ro no a2 : Option Addr} {m c n nc n2 c2 : Nat} {M N A2 : List Pr}

def ldH (v : Value) : Sem Value := Instr.loadAt 46 v
theorem ldH_eq (v : Value) : Instr.loadAt 46 v = ldH v := rfl
theorem sizeH : (Try.prog.info? 46).map (·.size) = some 4 := by kernel_rfl
theorem run_ldH {g : Nat} {r : Int} {a1 : Option Addr} {n1 d1 : Nat} {a2 : Option Addr} {n2 d2 : Nat} {b : Bool} (h : w.cell? ⟨g, 0, none⟩ = some (.int .i64 r) ∧ w.cell? ⟨g, 1, none⟩ = some (.slice a1 n1 d1) ∧ w.cell? ⟨g, 2, none⟩ = some (.slice a2 n2 d2) ∧ w.cell? ⟨g, 3, none⟩ = some (.bool b)) : (ldH (.pointer (some ⟨g, 0, none⟩))).run Try.prog w = .ok (.agg (HV r a1 n1 d1 a2 n2 d2 b)) w := by
  unfold ldH
  simp only [Instr.loadAt, Instr.sureAddr, Sem.run_bind, Sem.run_pure, Result.andThen]
  have hr : w.rangeAt g 0 (HV r a1 n1 d1 a2 n2 d2 b).toList := fun j v hv => by
    rw [Nat.zero_add]
    match j, hv with
    | 0, hv => cases hv; exact h.1
    | 1, hv => cases hv; exact h.2.1
    | 2, hv => cases hv; exact h.2.2.1
    | 3, hv => cases hv; exact h.2.2.2
    | j + 4, hv => simp at hv
  have := run_loadVar_mid (P := Try.prog) w g 0 46 (HV r a1 n1 d1 a2 n2 d2 b).toList _ hr Try.underlying46 rfl (by rw [sizeH]; rfl)
  simpa using this
/-- two rows of pairs, apart -/
structure RN (wg wr : World) (ro : Option Addr) (m c : Nat) (M : List Pr) (no : Option Addr) (n nc : Nat) (N : List Pr) : Prop where
  r : PR wr ro m c M
  ra : NewB wg wr ro
  q : PR wr no n nc N
  qa : NewB wg wr no
  ne : ∀ k, blk ro = some k → blk no ≠ some k
theorem RN.swap (h : RN wg wr ro m c M no n nc N) : RN wg wr no n nc N ro m c M := ⟨h.q, h.qa, h.r, h.ra, fun k h1 h2 => h.ne k h2 h1⟩
theorem RN.ap (h : RN wg wr ro m c M no n nc N) (r : PR w3 a2 n2 c2 A2) (a : Ap wr w3 ro a2) : RN wg w3 a2 n2 c2 A2 no n nc N := by
  refine ⟨r, h.ra.ap a, h.q.keep fun k hk => a.grown.block k (h.q.lt k hk) (fun e => h.ne k e.symm hk), ⟨(h.ra.ap a).1, h.qa.2⟩, fun k hk e => ?_⟩
  rcases a.lies with e2 | ⟨j, e2, hj⟩
  · exact h.ne k (by rw [← e2]; exact hk) e
  · rw [e2] at hk
    have := Option.some.inj hk
    have := h.q.lt k e
    omega
theorem RN.below (h : RN wg wr ro m c M no n nc N) (hb : Below wr.heap.size wr w3) : RN wg w3 ro m c M no n nc N := ⟨h.r.below hb, h.ra.below hb, h.q.below hb, h.qa.below hb, h.ne⟩
theorem PR.take (h : PR wr ro m c M) (k : Nat) (hk : k ≤ m) (h0 : 0 < m) : ∃ b, ro = some ⟨b, 0, none⟩ ∧ PSrc wr ro k c (M.take k) := by
  have hl := h.len
  obtain ⟨b, hb, -⟩ := h.at 0 h0
  refine ⟨b, hb, by rw [List.length_take]; omega, (fun e => by rw [hb] at e; cases e), fun ad e t ht => ?_⟩
  obtain ⟨b', hb', hA⟩ := h.at t (by omega)
  rw [e] at hb'
  obtain rfl := Option.some.inj hb'
  rw [Addr.add_lit, Nat.zero_add]
  have e2 : (M.take k).getD t p0 = M.getD t p0 := by simp [List.getD, ht]
  rw [e2]
  exact hA
theorem PR.cap (h : PR wr ro m c M) : m ≤ c := by
  rcases h.2 with ⟨h0, h00⟩ | ⟨q, cap2, cur, hv, hq, hh, hnc, _⟩
  · simp only [Value.slice.injEq] at h0
    omega
  · simp only [Value.slice.injEq, true_and] at hv
    omega
/-- the room: the list that is handed in, and what stands behind it -/
structure Rm (M : List Pr) (n k : Nat) : Prop where
  len : M.length = n + k
  tail : ∀ j, j < k → M.getD (n + j) p0 = ⟨-7, (j : Int)⟩
theorem Rm.next {k : Nat} (h : Rm M n k) : Rm (M ++ [⟨-7, (k : Int)⟩]) n (k + 1) :=
  ⟨by rw [List.length_append, h.len]; rfl, fun j hj => by
    by_cases e : j = k
    · subst e; exact getD_snoc_eq _ _ _ _ h.len.symm
    · rw [getD_snoc_lt _ _ _ _ (by rw [h.len]; omega)]
      exact h.tail j (by omega)⟩
theorem Rm.set {k i : Nat} (h : Rm M n k) (hi : i < n) (y : Pr) : Rm (M.set i y) n k :=
  ⟨by rw [List.length_set]; exact h.len, fun j hj => by
    rw [getD_set _ _ _ _ _ (by rw [h.len]; omega), if_neg (by omega)]
    exact h.tail j hj⟩
theorem take_eq {n : Nat} (hM : n ≤ M.length) (hN : N.length = n) (h : ∀ j, j < n → M.getD j p0 = N.getD j p0) : M.take n = N := by
  apply List.ext_getElem
  · rw [List.length_take]; omega
  · intro i h1 h2
    have h3 := h i (by omega)
    have h4 : i < M.length := by omega
    simpa [List.getD, h2, h4] using h3
attribute [local go_sem ↓] ldP_eq stP_eq ldH_eq
set_option maxRecDepth 100000 in
set_option maxHeartbeats 1600000 in
theorem settleMemory_any (r : Int) (a1 : Option Addr) (n d1 : Nat) (L : List Pr) (a2 : Option Addr) (n2 d2 : Nat) (B : List Pr) (b : Bool) (w : World) (SA : PSrc w a1 n d1 L) (SB : PSrc w a2 n2 d2 B) (hn : n ≤ 1048576) (hn2 : n2 ≤ 1048576) :
    Calls Try.prog 6 #[.agg (HV r a1 n d1 a2 n2 d2 b)] w fun e w' => e = .returned (.bool true) ∧ Below w.heap.size w w' := by
  have H1 : Hid (∀ w, Calls Try.prog 18 #[.int .i64 1, .slice none 0 0] w fun e w' => e = .returned (.bool true) ∧ Below w.heap.size w w') := fun w => by have := enough_any 1 none 0 0 [] w (PSrc.empty w) (by omega); rw [show clN 1 = 1 from rfl, show enB 1 [] = true by decide] at this; exact this
  have H3 : Hid (∀ w, Calls Try.prog 11 #[.int .i64 3, .slice none 0 0] w fun e w' => ∃ g, e = .returned (.slice (some ⟨g, 0, none⟩) 3 3) ∧ Below w.heap.size w w') := fun w => by
    refine (reach_any 3 none 0 0 [] w (PSrc.empty w) (by omega)).mono ?_
    rintro e w' ⟨g, F, rfl, M⟩
    exact ⟨g, rfl, M.bel⟩
  have HLen : Hid (L.length = n) := SA.len
  have HCe := hide (fun W => hv_cells (W := W) w r a1 n d1 a2 n2 d2 b)
  have HBg := hide (below_new w (.cells (HV r a1 n d1 a2 n2 d2 b) 46))
  have HSA := hide (SA.below HBg.out)
  have HSB := hide (SB.below HBg.out)
  obtain ⟨wg, hwg⟩ : ∃ wg, w.alloc (.cells (HV r a1 n d1 a2 n2 d2 b) 46) = wg := ⟨_, rfl⟩
  obtain ⟨g, hg⟩ : ∃ g, w.heap.size = g := ⟨_, rfl⟩
  rw [hwg] at HCe HBg HSA HSB
  rw [hg] at HCe
  have HAs := hide (asks_any r a1 n d1 a2 n2 d2 b)
  have hn' : (n : Int) ≤ 1048576 := by omega
  have hn2' : (n2 : Int) ≤ 1048576 := by omega
  clear SA SB
  go_enter Try.func6, Try.ntmps6
  go_wp2_with (first
    | (go_at_call 18; refine (H1.out _).mono ?_; rintro e w1 ⟨rfl, b1⟩; have HB1 := hide b1; clear b1 H1)
    | (go_at_call 11; refine (H3.out _).mono ?_; rintro e w2 ⟨g2, rfl, b2⟩; have HB2 := hide (HB1.out.trans (b2.mono HB1.out.size)); obtain ⟨-, x1, -, -⟩ := HCe.out _ HB2.out; have HSA2 := hide (HSA.out.below HB2.out); clear b2 H3 HB1)
    | (go_at_call 12; refine (copyPairs_any _ _ _ _ _ HSA2.out (by omega)).mono ?_; rintro e w3 ⟨b3, c3, rfl, R3, N3⟩; have HR3 := hide R3; have HN3 := hide (NewB.pre HB2.out N3); clear R3 N3 HB2 HSA2 x1))
  clear hg hwg
  go_loopw [3, 4] (fun p i wr => ∃ (k : Nat) (ro : Option Addr) (m rc : Nat) (M : List Pr), k ≤ 70 ∧ i = .int .i64 k ∧ p = .slice ro m rc ∧ Hid (m = n + k) ∧ Hid (Rm M n k ∧ M.take n = L) ∧ Hid (PR wr ro m rc M) ∧ Hid (NewB wg wr ro)) (fun _ i _ => 70 - (intOf i).toNat)
  case atStart => exact ⟨0, _, _, _, L, Nat.zero_le _, rfl, rfl, rfl, ⟨⟨HLen.out, fun j hj => by omega⟩, List.take_of_length_le (by have := HLen.out; omega)⟩, HR3, HN3⟩
  case round =>
    clear HR3 HN3
    obtain ⟨k, ro, m, rc, M, hk, rfl, rfl, HMm, HRm, HR, HN⟩ := hrel
    by_cases hlt : k < 70
    · have HNn : Hid (m + 1 ≤ 8796093022108) := by show _ ≤ _; have := HMm.out; omega
      have HRm2 : Hid (Rm (M ++ [(⟨-7, (k : Int)⟩ : Pr)]) n (k + 1) ∧ (M ++ [(⟨-7, (k : Int)⟩ : Pr)]).take n = L) := ⟨HRm.out.1.next, by rw [List.take_append_of_le_length (by rw [HRm.out.1.len]; omega)]; exact HRm.out.2⟩
      go_wp2_with (at_builtin; refine HR.out.app (L := [⟨-7, (k : Int)⟩]) (m := 1) rfl (pcs_lit _ _) HNn.out rfl (.tmp 23) (.tmp 26) rfl rfl rfl ?_; intro b5 c5 w5 R5 A5; have HR5 := hide R5; have HN5 := hide (HN.out.ap A5); clear R5 A5)
      go_roundw
      case rel => exact ⟨k + 1, b5, m + 1, c5, _, by omega, by go_num, rfl, by show _ = _; rw [HMm.out]; rfl, HRm2, HR5, HN5⟩
      case measure => simp [intOf]; omega
    · have hk70 : k = 70 := by omega
      rw [hk70] at HRm HMm
      clear hk70
      have hmn := HMm.out
      obtain ⟨bb, rfl, Sh⟩ := HR.out.take n (by omega) (by omega)
      rw [HRm.out.2] at Sh
      have HShh := hide Sh
      have hcap := HR.out.cap
      have hcn : n ≤ rc := by omega
      have hcn' : (n : Int) ≤ (rc : Int) := by omega
      obtain ⟨x0, x1, x2, x3⟩ := HCe.out _ HN.out.1
      have ldh := run_ldH ⟨x0, x1, x2, x3⟩
      have HSA3 := hide (HSA.out.below HN.out.1)
      clear Sh hcap hmn
      go_wp2_with (first
        | (go_at_call 19; refine (HAs.out _ _ _ _ _ _ _ HShh.out HSA3.out hn).mono ?_; rintro e w6 ⟨rfl, b6⟩; have HB6 := hide (HN.out.1.trans (b6.mono HN.out.1.size)); have HR6 := hide (HR.out.below b6); have HN6 := hide (HN.out.below b6); obtain ⟨y0, y1, y2, y3⟩ := HCe.out _ HB6.out; have HSA6 := hide (HSA.out.below HB6.out); clear b6 HR HN HShh HSA3 x0 x1 x2 x3 ldh)
        | (go_at_call 12; refine (copyPairs_any _ _ _ _ _ HSA6.out (by omega)).mono ?_; rintro e w7 ⟨b7, c7, rfl, R7, N7⟩; have HRN : Hid (RN wg w7 (some ⟨bb, 0, none⟩) m rc M b7 n c7 L) := ⟨HR6.out.below N7.1, HN6.out.below N7.1, R7, NewB.pre HB6.out N7, fun i h1 h2 => by have := HR6.out.lt i h1; have := N7.2 i h2; omega⟩; clear R7 N7 HR6 HN6 HB6 HSA6 y0 y1 y2 y3))
      go_loopw [44] (fun i wr => ∃ (j : Nat) (M N : List Pr), j ≤ n ∧ i = .int .i64 j ∧ Hid (Rm M n 70 ∧ N.length = n ∧ ∀ q, q < j → M.getD q p0 = N.getD q p0) ∧ Hid (RN wg wr (some ⟨bb, 0, none⟩) m rc M b7 n c7 N)) (fun i _ => n - (intOf i).toNat)
      case atStart => exact ⟨0, M, L, Nat.zero_le _, rfl, ⟨HRm.out.1, HLen.out, fun q hq => by omega⟩, HRN⟩
      case round =>
        clear HRN HRm
        obtain ⟨j, M, N, hj, rfl, HP, HRN⟩ := hrel
        by_cases hl2 : j < n
        · obtain ⟨-, -, x2, -⟩ := HCe.out _ HRN.out.ra.1
          have hjm : j < m := by have := HMm.out; omega
          have hjc : j < rc := by omega
          -- the second store, whatever stands in next
          have HSt : Hid (∀ (W : World) (N' : List Pr) (f t : Int), RN wg W (some ⟨bb, 0, none⟩) m rc M b7 n c7 N' → N'.getD j p0 = ⟨f, t⟩ → ∃ nb w9, b7 = some ⟨nb, 0, none⟩ ∧ (ldP (.pointer (some ⟨nb, j * 2, none⟩))).run Try.prog W = .ok (.agg #[.int .i64 f, .int .i64 t]) W ∧ (stP (.pointer (some ⟨bb, j * 2, none⟩)) (.agg #[.int .i64 f, .int .i64 t])).run Try.prog W = .ok () w9 ∧ RN wg w9 (some ⟨bb, 0, none⟩) m rc (M.set j ⟨f, t⟩) b7 n c7 N') := fun W N' f t h hN => by
            obtain ⟨nb, hnb, x⟩ := h.q.at j hl2
            rw [hN] at x
            obtain ⟨b', w9, eb, hst, R9, A9⟩ := h.r.put j hjm f t
            obtain rfl : bb = b' := by cases eb; rfl
            exact ⟨nb, w9, hnb, run_laP x, hst, h.ap R9 A9⟩
          by_cases hb0 : n2 = 0
          · subst hb0
            obtain ⟨y, hy⟩ : ∃ y, N.getD j p0 = y := ⟨_, rfl⟩
            obtain ⟨f, t⟩ := y
            obtain ⟨nb, w9, rfl, l9, s9, R9⟩ := HSt.out wr N f t HRN.out hy
            have HR9 := hide R9
            have HP9 : Hid (Rm (M.set j ⟨f, t⟩) n 70 ∧ N.length = n ∧ ∀ q, q < j + 1 → (M.set j ⟨f, t⟩).getD q p0 = N.getD q p0) := ⟨HP.out.1.set hl2 _, HP.out.2.1, fun q hq => by
              rw [getD_set _ _ _ _ _ (by rw [HP.out.1.len]; omega)]
              by_cases e : q = j
              · rw [if_pos e, e, hy]
              · rw [if_neg e]; exact HP.out.2.2 q (by omega)⟩
            clear R9 hy HSt
            go_wp2_with fail
            go_roundw
            case rel => exact ⟨j + 1, _, _, by omega, by go_num, HP9, HR9⟩
            case measure => simp [intOf]; omega
          · obtain ⟨x, hx⟩ : ∃ x : Nat, j % n2 = x := ⟨_, rfl⟩
            have hxn : x < n2 := by rw [← hx]; exact Nat.mod_lt _ (by omega)
            have hx' : (j : Int) % (n2 : Int) = (x : Int) := by rw [← hx, Int.natCast_emod]
            have h0n : (0 : Int) < (n2 : Int) := by omega
            have hxt : (j : Int).tmod (n2 : Int) = (x : Int) := by rw [Int.tmod_eq_emod_of_nonneg (by omega)]; exact hx'
            obtain ⟨ad, rfl, xb⟩ := HSB.out.at x hxn
            obtain ⟨y, hy⟩ : ∃ y, B.getD x p0 = y := ⟨_, rfl⟩
            rw [hy] at xb
            obtain ⟨f, t⟩ := y
            have HSS : Hid (∀ W, Below wg.heap.size wg W → W.cell? ⟨g, 2, none⟩ = some (.slice (some ad) n2 d2) ∧ PAt W (ad.add (x * 2)) ⟨f, t⟩) := fun W hW => ⟨(HCe.out _ hW).2.2.1, xb.on hW⟩
            obtain ⟨nb0, w8, eb8, hst8, R8, A8⟩ := HRN.out.swap.below (below_drew1 wr) |>.r.put j hl2 f t
            have HR8 := hide ((HRN.out.swap.below (below_drew1 wr)).ap R8 A8).swap
            obtain ⟨nb, w9, eb9, l9, s9, R9⟩ := HSt.out w8 _ f t HR8.out (by rw [getD_set _ _ _ _ _ (by rw [HP.out.2.1]; exact hl2), if_pos rfl])
            have HR9 := hide R9
            have HP9 : Hid (Rm (M.set j ⟨f, t⟩) n 70 ∧ (N.set j ⟨f, t⟩).length = n ∧ ∀ q, q < j + 1 → (M.set j ⟨f, t⟩).getD q p0 = (N.set j ⟨f, t⟩).getD q p0) := ⟨HP.out.1.set hl2 _, by rw [List.length_set]; exact HP.out.2.1, fun q hq => by
              rw [getD_set _ _ _ _ _ (by rw [HP.out.1.len]; omega), getD_set _ _ _ _ _ (by rw [HP.out.2.1]; omega)]
              by_cases e : q = j
              · rw [if_pos e, if_pos e]
              · rw [if_neg e, if_neg e]; exact HP.out.2.2 q (by omega)⟩
            obtain rfl := eb9
            obtain rfl : nb = nb0 := by cases eb8; rfl
            clear R8 A8 R9 hy xb HSt eb8 hx
            go_wp2_with fail
            refine wp_region_held_drew (S := fun W => W.cell? ⟨g, 2, none⟩ = some (.slice (some ad) n2 d2) ∧ PAt W (ad.add (x * 2)) ⟨f, t⟩) (by kernel_rfl) (HSS.out _ (HRN.out.ra.1.trans ((below_drew1 wr).mono HRN.out.ra.1.size))) (fun hHeld => ?_)
            refine wpAnyH_take (i := 0) (oi := { dst := some 51, op := Op.move (Operand.tmp 6), type := 22, pos := "memory.go:115", after := #[], guard := none }) (v := ?_) rfl (by kernel_rfl) (by kernel_rfl) (by kernel_rfl) (fun _ _ _ h => h) (Or.inl ⟨by rfl, ?_⟩) (by assumption) ?_
            rotate_left
            · (intro w hSw; (try dsimp only at hSw); go_simp); first | done | with_reducible rfl
            simp only [Act.put, List.setIfInBounds_toArray, List.set_cons_zero, List.set_cons_succ]
            refine wpAnyH_take (i := 1) (oi := { dst := some 52, op := Op.move (Operand.tmp 7), type := 3, pos := "memory.go:115", after := #[], guard := none }) (v := ?_) rfl (by kernel_rfl) (by kernel_rfl) (by kernel_rfl) (fun _ _ _ h => h) (Or.inl ⟨by rfl, ?_⟩) (by assumption) ?_
            rotate_left
            · (intro w hSw; (try dsimp only at hSw); go_simp); first | done | with_reducible rfl
            simp only [Act.put, List.setIfInBounds_toArray, List.set_cons_zero, List.set_cons_succ]
            refine wpAnyH_take (i := 2) (oi := { dst := some 53, op := Op.fieldAddr 46 (Operand.tmp 1) 2, type := 0, pos := "memory.go:115", after := #[], guard := none }) (v := ?_) rfl (by kernel_rfl) (by kernel_rfl) (by kernel_rfl) (fun _ _ _ h => h) (Or.inl ⟨by rfl, ?_⟩) (by assumption) ?_
            rotate_left
            · (intro w hSw; (try dsimp only at hSw); go_simp); first | done | with_reducible rfl
            simp only [Act.put, List.setIfInBounds_toArray, List.set_cons_zero, List.set_cons_succ]
            refine wpAnyH_take (i := 3) (oi := { dst := some 54, op := Op.load 22 (Operand.tmp 53), type := 22, pos := "memory.go:115", after := #[{ on := 2, ground := Ground.data }], guard := none }) (v := ?_) rfl (by kernel_rfl) (by kernel_rfl) (by kernel_rfl) (fun _ _ _ h => h) (Or.inl ⟨by rfl, ?_⟩) (by assumption) ?_
            rotate_left
            · (intro w hSw; (try dsimp only at hSw); go_simp); first | done | with_reducible rfl
            simp only [Act.put, List.setIfInBounds_toArray, List.set_cons_zero, List.set_cons_succ]
            refine wpAnyH_take (i := 4) (oi := { dst := some 55, op := Op.move (Operand.tmp 7), type := 3, pos := "memory.go:115", after := #[], guard := none }) (v := ?_) rfl (by kernel_rfl) (by kernel_rfl) (by kernel_rfl) (fun _ _ _ h => h) (Or.inl ⟨by rfl, ?_⟩) (by assumption) ?_
            rotate_left
            · (intro w hSw; (try dsimp only at hSw); go_simp); first | done | with_reducible rfl
            simp only [Act.put, List.setIfInBounds_toArray, List.set_cons_zero, List.set_cons_succ]
            refine wpAnyH_take (i := 5) (oi := { dst := some 56, op := Op.fieldAddr 46 (Operand.tmp 1) 2, type := 0, pos := "memory.go:115", after := #[], guard := none }) (v := ?_) rfl (by kernel_rfl) (by kernel_rfl) (by kernel_rfl) (fun _ _ _ h => h) (Or.inl ⟨by rfl, ?_⟩) (by assumption) ?_
            rotate_left
            · (intro w hSw; (try dsimp only at hSw); go_simp); first | done | with_reducible rfl
            simp only [Act.put, List.setIfInBounds_toArray, List.set_cons_zero, List.set_cons_succ]
            refine wpAnyH_take (i := 6) (oi := { dst := some 57, op := Op.load 22 (Operand.tmp 56), type := 22, pos := "memory.go:115", after := #[{ on := 5, ground := Ground.data }], guard := none }) (v := ?_) rfl (by kernel_rfl) (by kernel_rfl) (by kernel_rfl) (fun _ _ _ h => h) (Or.inl ⟨by rfl, ?_⟩) (by assumption) ?_
            rotate_left
            · (intro w hSw; (try dsimp only at hSw); go_simp); first | done | with_reducible rfl
            simp only [Act.put, List.setIfInBounds_toArray, List.set_cons_zero, List.set_cons_succ]
            refine wpAnyH_take (i := 7) (oi := { dst := some 58, op := Op.call { callee := Callee.builtin Builtin.len, args := #[Operand.tmp 57], argTypes := #[22] }, type := 3, pos := "memory.go:115", after := #[{ on := 6, ground := Ground.data }], guard := none }) (v := ?_) rfl (by kernel_rfl) (by kernel_rfl) (by kernel_rfl) (fun _ _ _ h => h) (Or.inl ⟨by rfl, ?_⟩) (by assumption) ?_
            rotate_left
            · (intro w hSw; (try dsimp only at hSw); go_simp); first | done | with_reducible rfl
            simp only [Act.put, List.setIfInBounds_toArray, List.set_cons_zero, List.set_cons_succ]
            refine wpAnyH_take (i := 8) (oi := { dst := some 59, op := Op.binOp BinOp.rem 3 (Operand.tmp 55) (Operand.tmp 58) 3, type := 3, pos := "memory.go:115", after := #[{ on := 4, ground := Ground.data }, { on := 7, ground := Ground.data }], guard := none }) (v := ?_) rfl (by kernel_rfl) (by kernel_rfl) (by kernel_rfl) (fun _ _ _ h => h) (Or.inl ⟨by rfl, ?_⟩) (by assumption) ?_
            rotate_left
            · (intro w hSw; (try dsimp only at hSw); go_simp); first | done | with_reducible rfl
            simp only [Act.put, List.setIfInBounds_toArray, List.set_cons_zero, List.set_cons_succ]
            refine wpAnyH_take (i := 9) (oi := { dst := some 60, op := Op.indexAddr 22 (Operand.tmp 54) (Operand.tmp 59), type := 0, pos := "memory.go:115", after := #[{ on := 3, ground := Ground.data }, { on := 8, ground := Ground.data }], guard := none }) (v := ?_) rfl (by kernel_rfl) (by kernel_rfl) (by kernel_rfl) (fun _ _ _ h => h) (Or.inl ⟨by rfl, ?_⟩) (by assumption) ?_
            rotate_left
            · (intro w hSw; (try dsimp only at hSw); go_simp); first | done | with_reducible rfl
            simp only [Act.put, List.setIfInBounds_toArray, List.set_cons_zero, List.set_cons_succ]
            refine wpAnyH_take (i := 10) (oi := { dst := some 61, op := Op.load 28 (Operand.tmp 60), type := 28, pos := "memory.go:115", after := #[{ on := 9, ground := Ground.data }], guard := none }) (v := .agg #[.int .i64 f, .int .i64 t]) rfl (by kernel_rfl) (by kernel_rfl) (by kernel_rfl) (fun _ _ _ h => h) (Or.inl ⟨by rfl, ?_⟩) (by assumption) ?_
            skip
            · (intro w hSw; (try dsimp only at hSw); have hl : (ldP (.pointer (some (ad.add (x * 2))))).run Try.prog w = .ok (.agg #[.int .i64 f, .int .i64 t]) w := run_laP hSw.2; go_simp); first | done | with_reducible rfl
            simp only [Act.put, List.setIfInBounds_toArray, List.set_cons_zero, List.set_cons_succ]
            refine wpAnyH_take (i := 11) (oi := { dst := some 62, op := Op.indexAddr 22 (Operand.tmp 51) (Operand.tmp 52), type := 0, pos := "memory.go:115", after := #[{ on := 0, ground := Ground.data }, { on := 1, ground := Ground.data }, { on := 0, ground := Ground.phase }, { on := 1, ground := Ground.phase }, { on := 2, ground := Ground.phase }, { on := 3, ground := Ground.phase }, { on := 4, ground := Ground.phase }, { on := 5, ground := Ground.phase }, { on := 6, ground := Ground.phase }, { on := 7, ground := Ground.phase }, { on := 8, ground := Ground.phase }, { on := 9, ground := Ground.phase }, { on := 10, ground := Ground.phase }], guard := none }) (v := ?_) rfl (by kernel_rfl) (by kernel_rfl) (by kernel_rfl) (fun _ _ _ h => h) (Or.inl ⟨by rfl, ?_⟩) (by assumption) ?_
            rotate_left
            · (intro w hSw; (try dsimp only at hSw); go_simp); first | done | with_reducible rfl
            simp only [Act.put, List.setIfInBounds_toArray, List.set_cons_zero, List.set_cons_succ]
            refine wpAnyH_ready (rs := [12]) (by kernel_rfl) (by simp) ?_
            refine AllReadyH.cons rfl (fun K hK => ?_) ?_
            rotate_left
            · exact AllReadyH.nil
            go_simp
            refine hK.out _ _ (HSS.out _ HR8.out.ra.1) (fun hHeld => ?_)
            clear hK K
            refine wpAnyH_done (by kernel_rfl) ?_ _
            clear hHeld
            clear HSS HR8 hHeld
            go_wp2_with fail
            go_roundw
            case rel => exact ⟨j + 1, _, _, by omega, by go_num, HP9, HR9⟩
            case measure => simp [intOf]; omega
        · obtain ⟨x0, x1, x2, x3⟩ := HCe.out _ HRN.out.ra.1
          have ldh := run_ldH ⟨x0, x1, x2, x3⟩
          have hmn := HMm.out
          obtain ⟨b', eb', Sh⟩ := HRN.out.r.take n (by omega) (by omega)
          rw [take_eq (by rw [HP.out.1.len]; omega) HP.out.2.1 (fun q hq => HP.out.2.2 q (by omega))] at Sh
          have HShh := hide Sh
          clear Sh eb' hmn
          go_wp2_with (go_at_call 19; refine (HAs.out _ _ _ _ _ _ _ HShh.out HRN.out.q.src hn).mono ?_; rintro e w9 ⟨rfl, b9⟩; have HR9 := hide (HRN.out.below b9); clear b9 HRN HShh x0 x1 x2 x3 ldh)
          go_loopw [8] (fun i wi => ∃ q : Nat, q ≤ 70 ∧ i = .int .i64 q ∧ w9 = wi) (fun i _ => 70 - (intOf i).toNat)
          case atStart => exact ⟨0, Nat.zero_le _, rfl, rfl⟩
          case round =>
            obtain ⟨q, hq, rfl, rfl⟩ := hrel
            obtain ⟨-, x1, -, -⟩ := HCe.out _ HR9.out.ra.1
            by_cases hl3 : q < 70
            · obtain ⟨y, hy⟩ : ∃ y, n + q = y := ⟨_, rfl⟩
              have hy' : (n : Int) + (q : Int) = (y : Int) := by omega
              have hym : y < m := by have := HMm.out; omega
              obtain ⟨b', eb', x⟩ := HR9.out.r.at y hym
              obtain rfl : bb = b' := by cases eb'; rfl
              rw [← hy, HP.out.1.tail q hl3, hy] at x
              have l9 : (ldP (.pointer (some ⟨bb, y * 2, none⟩))).run Try.prog w9 = .ok (.agg #[.int .i64 (-7), .int .i64 (q : Int)]) w9 := run_laP x
              have e1 : ∀ w : World, (binOp .neq 28 (.agg #[.int .i64 (-7), .int .i64 (q : Int)]) (.agg #[.int .i64 (-7), .int .i64 (q : Int)])).run Try.prog w = .ok (.bool false) w := run_neP _ _
              have e2 : ∀ (o p' : Operand) (w : World), (eqGuard .neq 28 o p' (.agg #[.int .i64 (-7), .int .i64 (q : Int)]) (.agg #[.int .i64 (-7), .int .i64 (q : Int)])).run Try.prog w = .ok () w := run_egP _ _
              have hq' : (q : Int) ≤ 70 := by omega
              clear x eb' hy
              go_wp2_with fail
              go_roundw
              case rel => exact ⟨q + 1, by omega, by go_num, trivial⟩
              case measure => simp [intOf]; omega
            · go_wp2_with fail
              go_ret
              exact ⟨rfl, HBg.out.trans (HR9.out.ra.1.mono HBg.out.size)⟩
end Go.Proofs.Ytinicdnpkihbkaa
