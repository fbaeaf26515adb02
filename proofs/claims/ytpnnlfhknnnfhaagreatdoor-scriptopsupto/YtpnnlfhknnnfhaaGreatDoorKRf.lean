/- The reference's step. -/
import Derived.Test.YtpnnlfhknnnfhaaGreatDoorKRe
import Derived.Test.YtpnnlfhknnnfhaaGreatDoorKRc
import Derived.Test.YtpnnlfhknnnfhaaGreatDoorKRw
import Derived.OrdersHeld
namespace Go.Proofs.YtpnnlfhknnnfhaaGreatDoor
open Go.RowKit T Y V
variable {w w' w2 : World} {g : Nat}
attribute [local go_sem ↓] ldSh_eq stSh_eq ldO_eq stO_eq

theorem kdN_nat (k : Nat) (h : k < 17) : kdN (k : Int) = k := by unfold kdN; split <;> omega
/-- does the kind fit the words? -/
def fitK (k : Nat) (ws : List (List UInt8)) : Prop := ws.length = (fdsK k).length + 1 ∧ ws.getD 0 [] = (shp.getD k ([], [])).1
theorem stepP_no {ws : List (List UInt8)} (h : ∀ k, k < 17 → ¬ fitK k ws) : stepP ws = none := by
  cases ws with
  | nil => rfl
  | cons w0 r =>
    unfold stepP
    simp only
    cases hk : kindIx w0 with
    | none => rfl
    | some k =>
      have hk17 := kindIx_lt hk
      have hw : (shp.getD k ([], [])).1 = w0 := by
        unfold kindIx at hk
        rw [List.findIdx?_eq_some_iff_getElem] at hk
        obtain ⟨h1, h2, _⟩ := hk
        have h3 : shp[k].1 = w0 := by simpa using h2
        rw [← h3]
        simp [List.getD, h1]
      rw [Option.bind_some, if_neg]
      intro hl
      exact h k hk17 ⟨by simp [hl], hw.symm⟩
theorem stepP_hit {w0 : List UInt8} {r : List (List UInt8)} {k : Nat} (hk : k < 17) (hw : w0 = (shp.getD k ([], [])).1) (hl : r.length = (fdsK k).length) : stepP (w0 :: r) = (putAll { sp0 with kind := (k : Int) } (fdsK k) r).bind fun o => if wrdL o.kind = w0 then some o else none := by
  unfold stepP
  simp only
  rw [hw, kindIx_wrd k hk, Option.bind_some, if_pos hl]
theorem putF_kind {p q : Sp} {f : UInt8} {l : List UInt8} (hf : f.toNat ≠ 107) (h : putF p f l = some q) : q.kind = p.kind := by
  unfold putF at h
  split at h
  · cases hq : skuOf l with
    | none => rw [hq] at h; cases h
    | some s => rw [hq] at h; have := Option.some.inj h; rw [← this]
  · cases hq : numOf l with
    | none => rw [hq] at h; cases h
    | some n =>
      rw [hq] at h
      have := Option.some.inj h
      rw [← this]
      unfold setN
      rw [if_neg hf]
      repeat' split
      all_goals rfl
theorem putAll_kind : ∀ (F : List UInt8) (r : List (List UInt8)) (p q : Sp), (∀ f ∈ F, f.toNat ≠ 107) → putAll p F r = some q → q.kind = p.kind
  | [], _, p, q, _, h => by rw [putAll] at h; exact (Option.some.inj h) ▸ rfl; simp
  | f :: F, [], p, q, _, h => by rw [putAll] at h; exact (Option.some.inj h) ▸ rfl; simp
  | f :: F, l :: r, p, q, hF, h => by
    rw [putAll] at h
    cases hp : putF p f l with
    | none => rw [hp] at h; cases h
    | some p2 =>
      rw [hp] at h
      rw [putAll_kind F r p2 q (fun x hx => hF x (by simp [hx])) h, putF_kind (hF f (by simp)) hp]
theorem wrd_inj : ∀ i, i < 17 → ∀ j, j < 17 → (shp.getD i ([], [])).1 = (shp.getD j ([], [])).1 → i = j := by
  intro i hi j hj h
  have h1 := kindIx_wrd i hi
  rw [h, kindIx_wrd j hj] at h1
  exact (Option.some.inj h1).symm
/-- while the kinds are looked through -/
structure Sr (w v : World) (g2 : Nat) (bo : Option Addr) (n c : Nat) (ws : List (List UInt8)) : Prop where
  z : OBox v g2 sp0
  r : SR v bo n c (ws.map bs)
  b : Below w.heap.size w v
theorem Sr.below {g2 n c : Nat} {bo : Option Addr} {ws : List (List UInt8)} {v : World} (h : Sr w v g2 bo n c ws) (k : Below v.heap.size v w2) : Sr w w2 g2 bo n c ws := ⟨h.z.below k, SR_below h.r k, h.b.trans (k.mono h.b.size)⟩
theorem cap_at {F : List UInt8} {fs : ByteArray} (h : bs (capL F) = fs) (i : Nat) (hi : i < fs.size) : fs[i] = F.getD i 0 - 32 := by
  subst h
  rw [bs_get]
  have hi2 : i < F.length := by rw [bs_size] at hi; simpa [capL] using hi
  simp [capL, List.getD, hi2]
set_option maxRecDepth 100000 in
set_option maxHeartbeats 6400000 in
theorem rstep_any (bo : Option Addr) (n c : Nat) (ws : List (List UInt8)) (w : World) (hR : SR w bo n c (ws.map bs)) (hn : n ≤ 1000000000000) (hw : ∀ l ∈ ws, l.length ≤ 1000000000000) : Calls Tryz.prog 12 #[.slice bo n c] w fun e w' => StA ws e ∧ Below w.heap.size w w' := by
  have hlen := hR.len
  rw [List.length_map] at hlen
  have HLn := hide hlen
  have HW := hide hw
  have HRl : Hid (∀ k, blk bo = some k → k < w.heap.size) := fun k hk => hR.lt k hk
  obtain ⟨w1, hw1, hz1, hb1, hs1⟩ := zero_made w
  have H0 : Hid (Sr w w1 w.heap.size bo n c ws) := ⟨hz1, SR_below hR hb1, hb1⟩
  clear hR hlen hw hz1 hb1 hs1
  go_enter Tryz.func12, Tryz.ntmps12
  go_wp2_with fail
  go_loopw [4] (fun v wr => ∃ k : Nat, k ≤ 17 ∧ v = .int .i64 (k : Int) ∧ Hid (∀ j, j < k → ¬ fitK j ws) ∧ Hid (Sr w wr w.heap.size bo n c ws)) (fun v _ => 17 - (intOf v).toNat)
  case atStart => exact ⟨0, by omega, rfl, (fun j h => absurd h (Nat.not_lt_zero _)), H0⟩
  case round =>
    clear H0
    obtain ⟨k, hk, rfl, HNo, HS⟩ := hrel
    by_cases hlt : k < 17
    · have hkI : (k : Int) ≤ 16 := by omega
      obtain ⟨F, hF⟩ : ∃ F, fdsK k = F := ⟨_, rfl⟩
      have hFL : fdsL (k : Int) = F := by rw [← hF]; unfold fdsL fdsK; rw [kdN_nat k hlt]
      have hWL : wrdL (k : Int) = (shp.getD k ([], [])).1 := by unfold wrdL; rw [kdN_nat k hlt]
      have hF4 : F.length ≤ 4 := by rw [← hF]; exact (fds_small k hlt).1
      have HC := hide (rshape_any (k : Int) wr)
      rw [hFL] at HC
      obtain ⟨fs, hfs⟩ : ∃ fs, bs (capL F) = fs := ⟨_, rfl⟩
      obtain ⟨m, hm⟩ : ∃ m, F.length = m := ⟨_, rfl⟩
      have hFm : fs.size = m := by rw [← hfs, bs_size]; simpa [capL] using hm
      have HFg := hide (fun i hi => cap_at hfs i hi)
      have HLt : Hid (∀ c ∈ F, c = 115 ∨ c ∈ ([107, 114, 99, 116, 113, 110] : List UInt8)) := by rw [← hF]; exact fds_letters k hlt
      rw [hfs] at HC
      have HF := hide hF
      have HM := hide hm
      have HWL := hide hWL
      have hm4 : m ≤ 4 := by omega
      obtain ⟨q, hq⟩ : ∃ q, m + 1 = q := ⟨_, rfl⟩
      have hwm : IntKind.i64.wrap ((m : Int) + 1) = (q : Int) := by rw [IntKind.wrap_i64]; omega
      have HQ := hide hq
      clear hF hFL hWL hfs hm hF4 hq
      by_cases hnq : n = q
      · have e5 : ((n : Int) == (q : Int)) = true := by rw [beq_iff_eq]; omega
        have f5 : ((n : Int) != (q : Int)) = false := by rw [bne, e5]; rfl
        obtain ⟨w0, r, hws⟩ : ∃ w0 r, ws = w0 :: r := by
          cases ws with
          | nil => have h1 := HLn.out; have h2 := HQ.out; simp at h1; omega
          | cons a b => exact ⟨a, b, rfl⟩
        subst hws
        have hrl : r.length = m := by have h1 := HLn.out; have h2 := HQ.out; simp at h1; omega
        have HRm := hide hrl
        have h0n : 0 < n := by have := HQ.out; omega
        have h0I : (0 : Int) < n := by omega
        obtain ⟨b, hbo, hcs, hnc⟩ := SR_at HS.out.r h0n
        subst hbo
        have hbl : b < w.heap.size := HRl.out b rfl
        have HBl := hide hbl
        have hw0 : w0 = (shp.getD k ([], [])).1 ∨ w0 ≠ (shp.getD k ([], [])).1 := Decidable.em _
        have HWd := hide (fun v => word_any (k : Int) v)
        have HSd : Hid (∀ v, Below wr.heap.size wr v → v.cell? ⟨b, 0, none⟩ = some (.string (bs w0))) := fun v hv => by
          obtain ⟨b', hb', hc', _⟩ := SR_at (HS.out.below hv).r h0n
          obtain rfl : b = b' := by simpa using hb'
          exact hc' 0 (bs w0) rfl
        have HNq := hide hnq
        clear hcs hbl hnq
        rcases hw0 with hw0 | hw0
        · have hst1 := stepP_hit hlt hw0 (hrl.trans (by rw [HF.out]; exact HM.out.symm))
          have heq := bs_eqB w0 (wrdL (k : Int)) (by rw [HWL.out]; exact hw0)
          have HW0 := hide hw0
          rw [HF.out] at hst1
          have HSP := hide hst1
          clear hst1 hw0 hrl
          go_wp2_with fail
          refine HC.out.mono ?_
          rintro e w3 ⟨rfl, b3⟩
          have HS3 := hide (HS.out.below b3)
          have HB3 := hide b3
          clear b3 HC
          go_wp2_with fail
          refine wp_region_held_drew (S := fun v => v.cell? ⟨b, 0, none⟩ = some (.string (bs w0))) (by kernel_rfl) (HSd.out _ (HB3.out.trans ((below_drew1 w3).mono HB3.out.size))) (fun hHeld => ?_)
          refine wpAnyH_take (i := 0) (oi := { dst := some 18, op := Op.move (Operand.tmp 0), type := 30, pos := "ref.go:279", after := #[], guard := none }) (v := ?_) rfl (by kernel_rfl) (by kernel_rfl) (by kernel_rfl) (fun _ _ _ h => h) (Or.inl ⟨by rfl, ?_⟩) (by assumption) ?_
          rotate_left
          · (intro w hSw; (try dsimp only at hSw); go_simp); first | done | with_reducible rfl
          simp only [Act.put, List.setIfInBounds_toArray, List.set_cons_zero, List.set_cons_succ]
          refine wpAnyH_take (i := 1) (oi := { dst := some 19, op := Op.call { callee := Callee.builtin Builtin.len, args := #[Operand.tmp 18], argTypes := #[30] }, type := 3, pos := "ref.go:279", after := #[{ on := 0, ground := Ground.data }], guard := none }) (v := ?_) rfl (by kernel_rfl) (by kernel_rfl) (by kernel_rfl) (fun _ _ _ h => h) (Or.inl ⟨by rfl, ?_⟩) (by assumption) ?_
          rotate_left
          · (intro w hSw; (try dsimp only at hSw); go_simp); first | done | with_reducible rfl
          simp only [Act.put, List.setIfInBounds_toArray, List.set_cons_zero, List.set_cons_succ]
          refine wpAnyH_take (i := 2) (oi := { dst := some 20, op := Op.move (Operand.tmp 5), type := 9, pos := "ref.go:279", after := #[], guard := none }) (v := ?_) rfl (by kernel_rfl) (by kernel_rfl) (by kernel_rfl) (fun _ _ _ h => h) (Or.inl ⟨by rfl, ?_⟩) (by assumption) ?_
          rotate_left
          · (intro w hSw; (try dsimp only at hSw); go_simp); first | done | with_reducible rfl
          simp only [Act.put, List.setIfInBounds_toArray, List.set_cons_zero, List.set_cons_succ]
          refine wpAnyH_take (i := 3) (oi := { dst := some 21, op := Op.call { callee := Callee.builtin Builtin.len, args := #[Operand.tmp 20], argTypes := #[9] }, type := 3, pos := "ref.go:279", after := #[{ on := 2, ground := Ground.data }], guard := none }) (v := .int .i64 (m : Int)) rfl (by kernel_rfl) (by kernel_rfl) (by kernel_rfl) (fun _ _ _ h => h) (Or.inl ⟨by rfl, ?_⟩) (by assumption) ?_
          skip
          · (intro w hSw; (try dsimp only at hSw); go_simp <;> (try simp only [hFm]) <;> (try go_simp)); first | done | with_reducible rfl
          simp only [Act.put, List.setIfInBounds_toArray, List.set_cons_zero, List.set_cons_succ]
          refine wpAnyH_take (i := 4) (oi := { dst := some 22, op := Op.binOp BinOp.add 3 (Operand.tmp 21) (Operand.const (Value.int IntKind.i64 1)) 3, type := 3, pos := "ref.go:279", after := #[{ on := 3, ground := Ground.data }], guard := none }) (v := .int .i64 (q : Int)) rfl (by kernel_rfl) (by kernel_rfl) (by kernel_rfl) (fun _ _ _ h => h) (Or.inl ⟨by rfl, ?_⟩) (by assumption) ?_
          skip
          · (intro w hSw; (try dsimp only at hSw); go_simp <;> (try simp only [hFm, hwm]) <;> (try go_simp)); first | done | with_reducible rfl
          simp only [Act.put, List.setIfInBounds_toArray, List.set_cons_zero, List.set_cons_succ]
          refine wpAnyH_take (i := 5) (oi := { dst := some 23, op := Op.binOp BinOp.neq 3 (Operand.tmp 19) (Operand.tmp 22) 3, type := 4, pos := "ref.go:279", after := #[{ on := 1, ground := Ground.data }, { on := 4, ground := Ground.data }], guard := none }) (v := .bool false) rfl (by kernel_rfl) (by kernel_rfl) (by kernel_rfl) (fun _ _ _ h => h) (Or.inl ⟨by rfl, ?_⟩) (by assumption) ?_
          skip
          · (intro w hSw; (try dsimp only at hSw); go_simp <;> (try simp only [f5]) <;> (try go_simp)); first | done | with_reducible rfl
          simp only [Act.put, List.setIfInBounds_toArray, List.set_cons_zero, List.set_cons_succ]
          refine wpAnyH_take (i := 6) (oi := { dst := some 24, op := Op.move (Operand.tmp 23), type := 4, pos := "ref.go:279", after := #[{ on := 5, ground := Ground.data }], guard := none }) (v := ?_) rfl (by kernel_rfl) (by kernel_rfl) (by kernel_rfl) (fun _ _ _ h => h) (Or.inl ⟨by rfl, ?_⟩) (by assumption) ?_
          rotate_left
          · (intro w hSw; (try dsimp only at hSw); go_simp); first | done | with_reducible rfl
          simp only [Act.put, List.setIfInBounds_toArray, List.set_cons_zero, List.set_cons_succ]
          refine wpAnyH_take (i := 7) (oi := { dst := some 25, op := Op.move (Operand.tmp 0), type := 30, pos := "ref.go:279", after := #[{ on := 6, ground := Ground.guard }], guard := some (6, false) }) (v := ?_) rfl (by kernel_rfl) (by kernel_rfl) (by kernel_rfl) (fun _ _ _ h => h) (Or.inl ⟨by rfl, ?_⟩) (by assumption) ?_
          rotate_left
          · (intro w hSw; (try dsimp only at hSw); go_simp); first | done | with_reducible rfl
          simp only [Act.put, List.setIfInBounds_toArray, List.set_cons_zero, List.set_cons_succ]
          refine wpAnyH_take (i := 8) (oi := { dst := some 26, op := Op.indexAddr 30 (Operand.tmp 25) (Operand.const (Value.int IntKind.i64 0)), type := 0, pos := "ref.go:279", after := #[{ on := 7, ground := Ground.data }, { on := 6, ground := Ground.guard }], guard := some (6, false) }) (v := ?_) rfl (by kernel_rfl) (by kernel_rfl) (by kernel_rfl) (fun _ _ _ h => h) (Or.inl ⟨by rfl, ?_⟩) (by assumption) ?_
          rotate_left
          · (intro w hSw; (try dsimp only at hSw); go_simp); first | done | with_reducible rfl
          simp only [Act.put, List.setIfInBounds_toArray, List.set_cons_zero, List.set_cons_succ]
          refine wpAnyH_take (i := 9) (oi := { dst := some 27, op := Op.load 9 (Operand.tmp 26), type := 9, pos := "ref.go:279", after := #[{ on := 8, ground := Ground.data }, { on := 6, ground := Ground.guard }], guard := some (6, false) }) (v := ?_) rfl (by kernel_rfl) (by kernel_rfl) (by kernel_rfl) (fun _ _ _ h => h) (Or.inl ⟨by rfl, ?_⟩) (by assumption) ?_
          rotate_left
          · (intro w hSw; (try dsimp only at hSw); go_simp); first | done | with_reducible rfl
          simp only [Act.put, List.setIfInBounds_toArray, List.set_cons_zero, List.set_cons_succ]
          refine wpAnyH_take (i := 10) (oi := { dst := some 28, op := Op.move (Operand.tmp 4), type := 3, pos := "ref.go:279", after := #[{ on := 6, ground := Ground.guard }], guard := some (6, false) }) (v := ?_) rfl (by kernel_rfl) (by kernel_rfl) (by kernel_rfl) (fun _ _ _ h => h) (Or.inl ⟨by rfl, ?_⟩) (by assumption) ?_
          rotate_left
          · (intro w hSw; (try dsimp only at hSw); go_simp); first | done | with_reducible rfl
          simp only [Act.put, List.setIfInBounds_toArray, List.set_cons_zero, List.set_cons_succ]
          refine wpAnyH_ready (rs := [11]) (by kernel_rfl) (by simp) ?_
          refine AllReadyH.cons rfl (fun K hK => ?_) ?_
          rotate_left
          · exact AllReadyH.nil
          go_simp
          go_wp2_with fail
          refine (HWd.out w3.drew).mono ?_
          rintro e w5 ⟨rfl, b5⟩
          have HS5 := hide ((HS3.out.below (below_drew1 w3)).below b5)
          refine hK.out _ _ (HSd.out _ ((HB3.out.trans ((below_drew1 w3).mono HB3.out.size)).trans (b5.mono (Nat.le_trans HB3.out.size (below_drew1 w3).size)))) (fun hHeld => ?_)
          clear hK K b5
          refine wpAnyH_take (i := 12) (oi := { dst := some 30, op := Op.binOp BinOp.neq 9 (Operand.tmp 27) (Operand.tmp 29) 9, type := 4, pos := "ref.go:279", after := #[{ on := 9, ground := Ground.data }, { on := 11, ground := Ground.data }, { on := 6, ground := Ground.guard }], guard := some (6, false) }) (v := .bool false) rfl (by kernel_rfl) (by kernel_rfl) (by kernel_rfl) (fun _ _ _ h => h) (Or.inl ⟨by rfl, ?_⟩) (by assumption) ?_
          skip
          · (intro w hSw; (try dsimp only at hSw); go_simp <;> (try simp only [heq]) <;> (try go_simp)); first | done | with_reducible rfl
          simp only [Act.put, List.setIfInBounds_toArray, List.set_cons_zero, List.set_cons_succ]
          refine wpAnyH_take (i := 13) (oi := { dst := some 31, op := Op.pick (Operand.tmp 24) (Operand.const (Value.bool true)) (Operand.tmp 30), type := 4, pos := "ref.go:279", after := #[{ on := 6, ground := Ground.data }, { on := 12, ground := Ground.data }], guard := none }) (v := ?_) rfl (by kernel_rfl) (by kernel_rfl) (by kernel_rfl) (fun _ _ _ h => h) (Or.inl ⟨by rfl, ?_⟩) (by assumption) ?_
          rotate_left
          · (intro w hSw; (try dsimp only at hSw); go_simp); first | done | with_reducible rfl
          simp only [Act.put, List.setIfInBounds_toArray, List.set_cons_zero, List.set_cons_succ]
          refine wpAnyH_done (by kernel_rfl) ?_ _
          clear hHeld
          have hst : True := trivial
          clear hst
          obtain ⟨w6, hst6, hx6, hb6, -⟩ := madeO w5 { sp0 with kind := (k : Int) } w5.heap.size rfl
          have hst' : (stO (.pointer (some ⟨w5.heap.size, 0, none⟩)) (.agg #[.int .i64 (k : Int), .int .i64 0, .int .i64 0, .int .i64 0, .string ⟨#[]⟩, .int .i64 0, .int .i64 0])).run Tryz.prog (w5.alloc (.cells #[.int .i64 0, .int .i64 0, .int .i64 0, .int .i64 0, .string ⟨#[]⟩, .int .i64 0, .int .i64 0] 24)) = .ok () w6 := hst6
          have HQ6 : Hid (Sq w w6 w.heap.size w5.heap.size 0 b (w0 :: r) { sp0 with kind := (k : Int) }) := by
            have h6 := HS5.out.below hb6
            obtain ⟨b', hb', hc', _⟩ := SR_at h6.r h0n
            obtain rfl : b = b' := by simpa using hb'
            exact ⟨hx6, h6.z, fun j l hj => hc' j (bs l) (by rw [List.getElem?_map, hj]; rfl), h6.b, HBl.out, Nat.le_refl _, HS5.out.z.lt⟩
          clear hx6 hb6 hst6
          go_wp2_with fail
          clear hst'
          go_loopw [7] (fun v wr => ∃ (i : Nat) (p : Sp), i ≤ m ∧ v = .int .i64 (i : Int) ∧ Hid (Sq w wr w.heap.size w5.heap.size 0 b (w0 :: r) p) ∧ Hid (putAll { sp0 with kind := (k : Int) } F r = putAll p (F.drop i) (r.drop i))) (fun v _ => m - (intOf v).toNat)
          case atStart => exact ⟨0, _, by omega, rfl, HQ6, (by show _ = _; rfl)⟩
          case round =>
            clear HQ6
            obtain ⟨i, p, hi, rfl, HP, HA⟩ := hrel
            by_cases him : i < m
            · have hiI : (i : Int) < m := by omega
              have hiF : i < fs.size := by omega
              obtain ⟨l, hl⟩ : ∃ l, r.getD i [] = l := ⟨_, rfl⟩
              have hir : i < r.length := by have := HRm.out; omega
              have hrl : r[i]? = some l := by rw [← hl]; simp [List.getD, hir]
              have hll : l.length ≤ 1000000000000 := HW.out l (List.mem_cons_of_mem _ (List.mem_of_getElem? hrl))
              obtain ⟨i1, hi1⟩ : ∃ i1, i + 1 = i1 := ⟨_, rfl⟩
              have e1 : (i : Int) + 1 = (i1 : Int) := by omega
              have h1n : (i1 : Int) < n := by have := HQ.out; have := HNq.out; omega
              have d1 : wr.cell? ⟨b, i1, none⟩ = some (.string (bs l)) := HP.out.c i1 l (by rw [← hi1]; exact hrl)
              obtain ⟨cc, hcc⟩ : ∃ cc, F.getD i 0 = cc := ⟨_, rfl⟩
              have hil : i < F.length := by have := HM.out; omega
              have hmem : cc ∈ F := by rw [← hcc]; simp [List.getD, hil]
              have hlet := HLt.out cc hmem
              obtain ⟨f, hf⟩ : ∃ f, fs[i] = f := ⟨_, rfl⟩
              have hfc : f = cc - 32 := by rw [← hf, HFg.out i hiF, hcc]
              have hA := putAll_step (i := i) hil hir HA.out
              rw [hl, hcc] at hA
              have HAs := hide hA
              have Hi1 := hide hi1
              clear hA HA hmem hil hir hrl hl hi1
              by_cases h115 : cc = 115
              · have e83 : ((f.toNat : Int) == 83) = true := by rw [hfc, h115]; rfl
                have hpf : putF p cc l = (skuOf l).map (fun s => { p with sku := bs s }) := by unfold putF; rw [if_pos (by rw [h115]; rfl)]
                have HSk := hide (rskuOf_any l hll wr)
                clear h115 hlet hfc hcc hll
                cases hsk : skuOf l with
                | none =>
                  rw [hsk] at hpf HSk
                  have HN : Hid (stepP (w0 :: r) = none) := by show _ = _; rw [HSP.out, HAs.out, hpf]; rfl
                  clear hpf hsk HAs
                  go_wp2_with fail
                  refine HSk.out.mono ?_
                  rintro e w7 ⟨rfl, b7⟩
                  have HP7 := hide (HP.out.below b7)
                  obtain ⟨w8, hst8, hx8, k8⟩ := zero_put HP7.out.z
                  have HX8 := hide hx8
                  have HB8 : Hid (Below w.heap.size w w8) := HP7.out.b.trans (k8.below (Nat.le_refl _) HP7.out.b.size)
                  clear hx8 k8 b7 HSk
                  go_wp2_with fail
                  exact bodyPost_ret (res2O Tryz.results12 rfl rfl HX8.out) rfl ⟨StA.no HN.out, HB8.out⟩
                | some s =>
                  rw [hsk] at hpf HSk
                  have HA2 : Hid (putAll { sp0 with kind := (k : Int) } F r = putAll { p with sku := bs s } (F.drop (i + 1)) (r.drop (i + 1))) := by show _ = _; rw [HAs.out, hpf]; rfl
                  clear hpf hsk HAs
                  go_wp2_with fail
                  refine HSk.out.mono ?_
                  rintro e w7 ⟨rfl, b7⟩
                  have HP7 := hide (HP.out.below b7)
                  have c4 := HP7.out.x.c4
                  have f4 := (HP7.out.x.setS (bs s)).2
                  have HP8 := hide (HP7.out.on ((KG.of (Below.refl _ _) w5.heap.size).set 4 (.string (bs s))) (HP7.out.x.setS (bs s)).1)
                  clear b7 HSk
                  go_wp2_with fail
                  go_roundw
                  case rel => exact ⟨i + 1, _, by omega, by first | (have := Hi1.out; congr 1; omega) | go_num, HP8, HA2⟩
                  case measure => have := Hi1.out; simp [intOf]; omega
              · have hl2 : cc ∈ ([107, 114, 99, 116, 113, 110] : List UInt8) := by rcases hlet with h | h; exact absurd h h115; exact h
                have e83 : ((f.toNat : Int) == 83) = false := by
                  rw [hfc]
                  simp only [List.mem_cons, List.not_mem_nil, or_false] at hl2
                  rcases hl2 with rfl | rfl | rfl | rfl | rfl | rfl <;> rfl
                have hpf : putF p cc l = (numOf l).map (setN p cc) := by unfold putF; rw [if_neg (by intro h; apply h115; apply UInt8.toNat_inj.1; rw [h]; rfl)]
                have HCw : Hid (∀ x, setN p cc x = wtN p f x) := fun x => by rw [hfc, cap_with p cc x hl2]
                have HNu := hide (rnum_any l hll wr)
                clear h115 hlet hfc hcc hll hl2
                unfold NuA at HNu
                cases hnm : numOf l with
                | none =>
                  rw [hnm] at hpf HNu
                  have HN : Hid (stepP (w0 :: r) = none) := by show _ = _; rw [HSP.out, HAs.out, hpf]; rfl
                  clear hpf hnm HAs
                  obtain ⟨w8, hst8, hx8, k8⟩ := zero_put HP.out.z
                  have HX8 := hide hx8
                  have HB8 : Hid (Below w.heap.size w w8) := HP.out.b.trans (k8.below (Nat.le_refl _) HP.out.b.size)
                  clear hx8 k8
                  go_wp2_with fail
                  refine HNu.out.mono ?_
                  rintro e w7 ⟨rfl, rfl⟩
                  clear HNu
                  go_wp2_with fail
                  exact bodyPost_ret (res2O Tryz.results12 rfl rfl HX8.out) rfl ⟨StA.no HN.out, HB8.out⟩
                | some x =>
                  rw [hnm] at hpf HNu
                  have HA2 : Hid (putAll { sp0 with kind := (k : Int) } F r = putAll (wtN p f x) (F.drop (i + 1)) (r.drop (i + 1))) := by show _ = _; rw [HAs.out, hpf, ← HCw.out]; rfl
                  clear hpf hnm HAs HCw
                  go_wp2_with fail
                  refine HNu.out.mono ?_
                  rintro e w7 ⟨rfl, rfl⟩
                  clear HNu
                  have HPd := hide (HP.out.below (below_drew1 w7))
                  have u5 := run_ldO HPd.out.x
                  go_wp2_with fail
                  refine wp_region_held_drew (S := fun _ => True) (by kernel_rfl) (trivial) (fun hHeld => ?_)
                  refine wpAnyH_take (i := 1) (oi := { dst := some 71, op := Op.move (Operand.tmp 5), type := 9, pos := "ref.go:296", after := #[], guard := none }) (v := ?_) rfl (by kernel_rfl) (by kernel_rfl) (by kernel_rfl) (fun _ _ _ h => h) (Or.inl ⟨by rfl, ?_⟩) (by assumption) ?_
                  rotate_left
                  · (intro w hSw; (try dsimp only at hSw); go_simp); first | done | with_reducible rfl
                  simp only [Act.put, List.setIfInBounds_toArray, List.set_cons_zero, List.set_cons_succ]
                  refine wpAnyH_take (i := 2) (oi := { dst := some 72, op := Op.move (Operand.tmp 7), type := 3, pos := "ref.go:296", after := #[], guard := none }) (v := ?_) rfl (by kernel_rfl) (by kernel_rfl) (by kernel_rfl) (fun _ _ _ h => h) (Or.inl ⟨by rfl, ?_⟩) (by assumption) ?_
                  rotate_left
                  · (intro w hSw; (try dsimp only at hSw); go_simp); first | done | with_reducible rfl
                  simp only [Act.put, List.setIfInBounds_toArray, List.set_cons_zero, List.set_cons_succ]
                  refine wpAnyH_take (i := 3) (oi := { dst := some 73, op := Op.index 9 (Operand.tmp 71) (Operand.tmp 72), type := 5, pos := "ref.go:296", after := #[{ on := 1, ground := Ground.data }, { on := 2, ground := Ground.data }], guard := none }) (v := ?_) rfl (by kernel_rfl) (by kernel_rfl) (by kernel_rfl) (fun _ _ _ h => h) (Or.inl ⟨by rfl, ?_⟩) (by assumption) ?_
                  rotate_left
                  · (intro w hSw; (try dsimp only at hSw); go_simp <;> (try simp only [hf]) <;> (try go_simp)); first | done | with_reducible rfl
                  simp only [Act.put, List.setIfInBounds_toArray, List.set_cons_zero, List.set_cons_succ]
                  refine wpAnyH_take (i := 4) (oi := { dst := some 74, op := Op.move (Operand.tmp 10), type := 3, pos := "ref.go:296", after := #[], guard := none }) (v := ?_) rfl (by kernel_rfl) (by kernel_rfl) (by kernel_rfl) (fun _ _ _ h => h) (Or.inl ⟨by rfl, ?_⟩) (by assumption) ?_
                  rotate_left
                  · (intro w hSw; (try dsimp only at hSw); go_simp); first | done | with_reducible rfl
                  simp only [Act.put, List.setIfInBounds_toArray, List.set_cons_zero, List.set_cons_succ]
                  refine wpAnyH_ready (rs := [0]) (by kernel_rfl) (by simp) ?_
                  refine AllReadyH.cons rfl (fun K hK => ?_) ?_
                  rotate_left
                  · exact AllReadyH.nil
                  go_simp
                  refine hK.out _ _ trivial (fun hHeld => ?_)
                  clear hK K
                  refine wpAnyH_ready (rs := [5]) (by kernel_rfl) (by simp) ?_
                  refine AllReadyH.cons rfl (fun K hK => ?_) ?_
                  rotate_left
                  · exact AllReadyH.nil
                  go_simp
                  go_wp2_with fail
                  refine (with_any p f x w7.drew).mono ?_
                  rintro e w8 ⟨rfl, b8⟩
                  have HP8 := hide (HPd.out.below b8)
                  obtain ⟨w9, hst9, hy9, k9⟩ := op_put (o := wtN p f x) HP8.out.x
                  have HP9 := hide (HP8.out.on k9 hy9)
                  refine hK.out _ _ trivial (fun hHeld => ?_)
                  clear hK K b8 hy9 k9
                  refine wpAnyH_ready (rs := [6]) (by kernel_rfl) (by simp) ?_
                  refine AllReadyH.cons rfl (fun K hK => ?_) ?_
                  rotate_left
                  · exact AllReadyH.nil
                  go_simp
                  go_wp2_with fail
                  refine hK.out _ _ trivial (fun hHeld => ?_)
                  clear hK K
                  refine wpAnyH_done (by kernel_rfl) ?_ _
                  clear hHeld
                  go_wp2_with fail
                  go_roundw
                  case rel => exact ⟨i + 1, _, by omega, by first | (have := Hi1.out; congr 1; omega) | go_num, HP9, HA2⟩
                  case measure => have := Hi1.out; simp [intOf]; omega
            · obtain rfl : i = m := by omega
              have HFi : Hid (putAll { sp0 with kind := (k : Int) } F r = some p) := putAll_end (by have := HRm.out; omega) HA.out
              have d0 := HP.out.x.c0
              have hld := run_ldO HP.out.x
              clear HA
              by_cases hk0 : k = 0
              · have ek0 : ((k : Int) == 0) = true := by rw [hk0]; rfl
                by_cases hin : 1 ≤ p.kind ∧ p.kind ≤ 16
                · have hi1 : (1 : Int) ≤ p.kind := hin.1
                  have hi2 : p.kind ≤ 16 := hin.2
                  have HN : Hid (stepP (w0 :: r) = none) := by
                    show _ = _
                    rw [HSP.out, HFi.out, Option.bind_some, if_neg]
                    intro h
                    have := wrd_inj (kdN p.kind) (kdN_lt _) k (by omega) (h.trans HW0.out)
                    unfold kdN at this
                    rw [if_pos hin] at this
                    omega
                  obtain ⟨w8, hst8, hx8, k8⟩ := zero_put HP.out.z
                  have HX8 := hide hx8
                  have HB8 : Hid (Below w.heap.size w w8) := HP.out.b.trans (k8.below (Nat.le_refl _) HP.out.b.size)
                  clear hx8 k8 hk0 hin
                  go_wp2_with fail
                  exact bodyPost_ret (res2O Tryz.results12 rfl rfl HX8.out) rfl ⟨StA.no HN.out, HB8.out⟩
                · have HY : Hid (stepP (w0 :: r) = some p) := by
                    show _ = _
                    rw [HSP.out, HFi.out, Option.bind_some, if_pos]
                    unfold wrdL kdN
                    rw [if_neg hin, HW0.out, hk0]
                  obtain ⟨w8, hst8, hx8, k8⟩ := op_put (o := p) HP.out.z
                  have HX8 := hide hx8
                  have HB8 : Hid (Below w.heap.size w w8) := HP.out.b.trans (k8.below (Nat.le_refl _) HP.out.b.size)
                  clear hx8 k8 hk0
                  by_cases hi1 : (1 : Int) ≤ p.kind
                  · have hi2 : ¬ p.kind ≤ 16 := fun h => hin ⟨hi1, h⟩
                    clear hin
                    go_wp2_with fail
                    exact bodyPost_ret (res2O Tryz.results12 rfl rfl HX8.out) rfl ⟨StA.yes HY.out, HB8.out⟩
                  · clear hin
                    go_wp2_with fail
                    exact bodyPost_ret (res2O Tryz.results12 rfl rfl HX8.out) rfl ⟨StA.yes HY.out, HB8.out⟩
              · have ek0 : ((k : Int) == 0) = false := by rw [beq_eq_false_iff_ne]; omega
                have HY : Hid (stepP (w0 :: r) = some p) := by
                  show _ = _
                  rw [HSP.out, HFi.out, Option.bind_some, if_pos]
                  have := putAll_kind F r _ p (by rw [← HF.out]; exact fds_no_k k hlt hk0) HFi.out
                  rw [this, HW0.out]
                  exact HWL.out
                obtain ⟨w8, hst8, hx8, k8⟩ := op_put (o := p) HP.out.z
                have HX8 := hide hx8
                have HB8 : Hid (Below w.heap.size w w8) := HP.out.b.trans (k8.below (Nat.le_refl _) HP.out.b.size)
                clear hx8 k8 hk0
                go_wp2_with fail
                exact bodyPost_ret (res2O Tryz.results12 rfl rfl HX8.out) rfl ⟨StA.yes HY.out, HB8.out⟩
        · have heq := bs_neB w0 (wrdL (k : Int)) (by rw [HWL.out]; exact hw0)
          have HNo2 : Hid (∀ j, j < k + 1 → ¬ fitK j (w0 :: r)) := fun j hj => by
            by_cases hjk : j = k
            · subst hjk; exact fun h => hw0 h.2
            · exact HNo.out j (by omega)
          clear hw0 hrl
          go_wp2_with fail
          refine HC.out.mono ?_
          rintro e w3 ⟨rfl, b3⟩
          have HS3 := hide (HS.out.below b3)
          have HB3 := hide b3
          clear b3 HC
          go_wp2_with fail
          refine wp_region_held_drew (S := fun v => v.cell? ⟨b, 0, none⟩ = some (.string (bs w0))) (by kernel_rfl) (HSd.out _ (HB3.out.trans ((below_drew1 w3).mono HB3.out.size))) (fun hHeld => ?_)
          refine wpAnyH_take (i := 0) (oi := { dst := some 18, op := Op.move (Operand.tmp 0), type := 30, pos := "ref.go:279", after := #[], guard := none }) (v := ?_) rfl (by kernel_rfl) (by kernel_rfl) (by kernel_rfl) (fun _ _ _ h => h) (Or.inl ⟨by rfl, ?_⟩) (by assumption) ?_
          rotate_left
          · (intro w hSw; (try dsimp only at hSw); go_simp); first | done | with_reducible rfl
          simp only [Act.put, List.setIfInBounds_toArray, List.set_cons_zero, List.set_cons_succ]
          refine wpAnyH_take (i := 1) (oi := { dst := some 19, op := Op.call { callee := Callee.builtin Builtin.len, args := #[Operand.tmp 18], argTypes := #[30] }, type := 3, pos := "ref.go:279", after := #[{ on := 0, ground := Ground.data }], guard := none }) (v := ?_) rfl (by kernel_rfl) (by kernel_rfl) (by kernel_rfl) (fun _ _ _ h => h) (Or.inl ⟨by rfl, ?_⟩) (by assumption) ?_
          rotate_left
          · (intro w hSw; (try dsimp only at hSw); go_simp); first | done | with_reducible rfl
          simp only [Act.put, List.setIfInBounds_toArray, List.set_cons_zero, List.set_cons_succ]
          refine wpAnyH_take (i := 2) (oi := { dst := some 20, op := Op.move (Operand.tmp 5), type := 9, pos := "ref.go:279", after := #[], guard := none }) (v := ?_) rfl (by kernel_rfl) (by kernel_rfl) (by kernel_rfl) (fun _ _ _ h => h) (Or.inl ⟨by rfl, ?_⟩) (by assumption) ?_
          rotate_left
          · (intro w hSw; (try dsimp only at hSw); go_simp); first | done | with_reducible rfl
          simp only [Act.put, List.setIfInBounds_toArray, List.set_cons_zero, List.set_cons_succ]
          refine wpAnyH_take (i := 3) (oi := { dst := some 21, op := Op.call { callee := Callee.builtin Builtin.len, args := #[Operand.tmp 20], argTypes := #[9] }, type := 3, pos := "ref.go:279", after := #[{ on := 2, ground := Ground.data }], guard := none }) (v := .int .i64 (m : Int)) rfl (by kernel_rfl) (by kernel_rfl) (by kernel_rfl) (fun _ _ _ h => h) (Or.inl ⟨by rfl, ?_⟩) (by assumption) ?_
          skip
          · (intro w hSw; (try dsimp only at hSw); go_simp <;> (try simp only [hFm]) <;> (try go_simp)); first | done | with_reducible rfl
          simp only [Act.put, List.setIfInBounds_toArray, List.set_cons_zero, List.set_cons_succ]
          refine wpAnyH_take (i := 4) (oi := { dst := some 22, op := Op.binOp BinOp.add 3 (Operand.tmp 21) (Operand.const (Value.int IntKind.i64 1)) 3, type := 3, pos := "ref.go:279", after := #[{ on := 3, ground := Ground.data }], guard := none }) (v := .int .i64 (q : Int)) rfl (by kernel_rfl) (by kernel_rfl) (by kernel_rfl) (fun _ _ _ h => h) (Or.inl ⟨by rfl, ?_⟩) (by assumption) ?_
          skip
          · (intro w hSw; (try dsimp only at hSw); go_simp <;> (try simp only [hFm, hwm]) <;> (try go_simp)); first | done | with_reducible rfl
          simp only [Act.put, List.setIfInBounds_toArray, List.set_cons_zero, List.set_cons_succ]
          refine wpAnyH_take (i := 5) (oi := { dst := some 23, op := Op.binOp BinOp.neq 3 (Operand.tmp 19) (Operand.tmp 22) 3, type := 4, pos := "ref.go:279", after := #[{ on := 1, ground := Ground.data }, { on := 4, ground := Ground.data }], guard := none }) (v := .bool false) rfl (by kernel_rfl) (by kernel_rfl) (by kernel_rfl) (fun _ _ _ h => h) (Or.inl ⟨by rfl, ?_⟩) (by assumption) ?_
          skip
          · (intro w hSw; (try dsimp only at hSw); go_simp <;> (try simp only [f5]) <;> (try go_simp)); first | done | with_reducible rfl
          simp only [Act.put, List.setIfInBounds_toArray, List.set_cons_zero, List.set_cons_succ]
          refine wpAnyH_take (i := 6) (oi := { dst := some 24, op := Op.move (Operand.tmp 23), type := 4, pos := "ref.go:279", after := #[{ on := 5, ground := Ground.data }], guard := none }) (v := ?_) rfl (by kernel_rfl) (by kernel_rfl) (by kernel_rfl) (fun _ _ _ h => h) (Or.inl ⟨by rfl, ?_⟩) (by assumption) ?_
          rotate_left
          · (intro w hSw; (try dsimp only at hSw); go_simp); first | done | with_reducible rfl
          simp only [Act.put, List.setIfInBounds_toArray, List.set_cons_zero, List.set_cons_succ]
          refine wpAnyH_take (i := 7) (oi := { dst := some 25, op := Op.move (Operand.tmp 0), type := 30, pos := "ref.go:279", after := #[{ on := 6, ground := Ground.guard }], guard := some (6, false) }) (v := ?_) rfl (by kernel_rfl) (by kernel_rfl) (by kernel_rfl) (fun _ _ _ h => h) (Or.inl ⟨by rfl, ?_⟩) (by assumption) ?_
          rotate_left
          · (intro w hSw; (try dsimp only at hSw); go_simp); first | done | with_reducible rfl
          simp only [Act.put, List.setIfInBounds_toArray, List.set_cons_zero, List.set_cons_succ]
          refine wpAnyH_take (i := 8) (oi := { dst := some 26, op := Op.indexAddr 30 (Operand.tmp 25) (Operand.const (Value.int IntKind.i64 0)), type := 0, pos := "ref.go:279", after := #[{ on := 7, ground := Ground.data }, { on := 6, ground := Ground.guard }], guard := some (6, false) }) (v := ?_) rfl (by kernel_rfl) (by kernel_rfl) (by kernel_rfl) (fun _ _ _ h => h) (Or.inl ⟨by rfl, ?_⟩) (by assumption) ?_
          rotate_left
          · (intro w hSw; (try dsimp only at hSw); go_simp); first | done | with_reducible rfl
          simp only [Act.put, List.setIfInBounds_toArray, List.set_cons_zero, List.set_cons_succ]
          refine wpAnyH_take (i := 9) (oi := { dst := some 27, op := Op.load 9 (Operand.tmp 26), type := 9, pos := "ref.go:279", after := #[{ on := 8, ground := Ground.data }, { on := 6, ground := Ground.guard }], guard := some (6, false) }) (v := ?_) rfl (by kernel_rfl) (by kernel_rfl) (by kernel_rfl) (fun _ _ _ h => h) (Or.inl ⟨by rfl, ?_⟩) (by assumption) ?_
          rotate_left
          · (intro w hSw; (try dsimp only at hSw); go_simp); first | done | with_reducible rfl
          simp only [Act.put, List.setIfInBounds_toArray, List.set_cons_zero, List.set_cons_succ]
          refine wpAnyH_take (i := 10) (oi := { dst := some 28, op := Op.move (Operand.tmp 4), type := 3, pos := "ref.go:279", after := #[{ on := 6, ground := Ground.guard }], guard := some (6, false) }) (v := ?_) rfl (by kernel_rfl) (by kernel_rfl) (by kernel_rfl) (fun _ _ _ h => h) (Or.inl ⟨by rfl, ?_⟩) (by assumption) ?_
          rotate_left
          · (intro w hSw; (try dsimp only at hSw); go_simp); first | done | with_reducible rfl
          simp only [Act.put, List.setIfInBounds_toArray, List.set_cons_zero, List.set_cons_succ]
          refine wpAnyH_ready (rs := [11]) (by kernel_rfl) (by simp) ?_
          refine AllReadyH.cons rfl (fun K hK => ?_) ?_
          rotate_left
          · exact AllReadyH.nil
          go_simp
          go_wp2_with fail
          refine (HWd.out w3.drew).mono ?_
          rintro e w5 ⟨rfl, b5⟩
          have HS5 := hide ((HS3.out.below (below_drew1 w3)).below b5)
          refine hK.out _ _ (HSd.out _ ((HB3.out.trans ((below_drew1 w3).mono HB3.out.size)).trans (b5.mono (Nat.le_trans HB3.out.size (below_drew1 w3).size)))) (fun hHeld => ?_)
          clear hK K b5
          refine wpAnyH_take (i := 12) (oi := { dst := some 30, op := Op.binOp BinOp.neq 9 (Operand.tmp 27) (Operand.tmp 29) 9, type := 4, pos := "ref.go:279", after := #[{ on := 9, ground := Ground.data }, { on := 11, ground := Ground.data }, { on := 6, ground := Ground.guard }], guard := some (6, false) }) (v := .bool true) rfl (by kernel_rfl) (by kernel_rfl) (by kernel_rfl) (fun _ _ _ h => h) (Or.inl ⟨by rfl, ?_⟩) (by assumption) ?_
          skip
          · (intro w hSw; (try dsimp only at hSw); go_simp <;> (try simp only [heq]) <;> (try go_simp)); first | done | with_reducible rfl
          simp only [Act.put, List.setIfInBounds_toArray, List.set_cons_zero, List.set_cons_succ]
          refine wpAnyH_take (i := 13) (oi := { dst := some 31, op := Op.pick (Operand.tmp 24) (Operand.const (Value.bool true)) (Operand.tmp 30), type := 4, pos := "ref.go:279", after := #[{ on := 6, ground := Ground.data }, { on := 12, ground := Ground.data }], guard := none }) (v := ?_) rfl (by kernel_rfl) (by kernel_rfl) (by kernel_rfl) (fun _ _ _ h => h) (Or.inl ⟨by rfl, ?_⟩) (by assumption) ?_
          rotate_left
          · (intro w hSw; (try dsimp only at hSw); go_simp); first | done | with_reducible rfl
          simp only [Act.put, List.setIfInBounds_toArray, List.set_cons_zero, List.set_cons_succ]
          refine wpAnyH_done (by kernel_rfl) ?_ _
          clear hHeld
          go_wp2_with fail
          go_roundw
          case rel => exact ⟨k + 1, by omega, by go_num, HNo2, HS5⟩
          case measure => simp [intOf]; omega
      · have e5 : ((n : Int) == (q : Int)) = false := by rw [beq_eq_false_iff_ne]; omega
        have f5 : ((n : Int) != (q : Int)) = true := by rw [bne, e5]; rfl
        have HNo2 : Hid (∀ j, j < k + 1 → ¬ fitK j ws) := fun j hj => by
          by_cases hjk : j = k
          · subst hjk
            intro h
            have h1 := h.1
            rw [HF.out, HM.out, HQ.out, HLn.out] at h1
            exact hnq h1
          · exact HNo.out j (by omega)
        clear hnq
        go_wp2_with fail
        refine HC.out.mono ?_
        rintro e w3 ⟨rfl, b3⟩
        have HS3 := hide ((HS.out.below b3).below (below_drew1 w3))
        clear b3 HC
        go_wp2_with fail
        refine wp_region_held_drew (S := fun _ => True) (by kernel_rfl) (trivial) (fun hHeld => ?_)
        refine wpAnyH_take (i := 0) (oi := { dst := some 18, op := Op.move (Operand.tmp 0), type := 30, pos := "ref.go:279", after := #[], guard := none }) (v := ?_) rfl (by kernel_rfl) (by kernel_rfl) (by kernel_rfl) (fun _ _ _ h => h) (Or.inl ⟨by rfl, ?_⟩) (by assumption) ?_
        rotate_left
        · (intro w hSw; (try dsimp only at hSw); go_simp); first | done | with_reducible rfl
        simp only [Act.put, List.setIfInBounds_toArray, List.set_cons_zero, List.set_cons_succ]
        refine wpAnyH_take (i := 1) (oi := { dst := some 19, op := Op.call { callee := Callee.builtin Builtin.len, args := #[Operand.tmp 18], argTypes := #[30] }, type := 3, pos := "ref.go:279", after := #[{ on := 0, ground := Ground.data }], guard := none }) (v := ?_) rfl (by kernel_rfl) (by kernel_rfl) (by kernel_rfl) (fun _ _ _ h => h) (Or.inl ⟨by rfl, ?_⟩) (by assumption) ?_
        rotate_left
        · (intro w hSw; (try dsimp only at hSw); go_simp); first | done | with_reducible rfl
        simp only [Act.put, List.setIfInBounds_toArray, List.set_cons_zero, List.set_cons_succ]
        refine wpAnyH_take (i := 2) (oi := { dst := some 20, op := Op.move (Operand.tmp 5), type := 9, pos := "ref.go:279", after := #[], guard := none }) (v := ?_) rfl (by kernel_rfl) (by kernel_rfl) (by kernel_rfl) (fun _ _ _ h => h) (Or.inl ⟨by rfl, ?_⟩) (by assumption) ?_
        rotate_left
        · (intro w hSw; (try dsimp only at hSw); go_simp); first | done | with_reducible rfl
        simp only [Act.put, List.setIfInBounds_toArray, List.set_cons_zero, List.set_cons_succ]
        refine wpAnyH_take (i := 3) (oi := { dst := some 21, op := Op.call { callee := Callee.builtin Builtin.len, args := #[Operand.tmp 20], argTypes := #[9] }, type := 3, pos := "ref.go:279", after := #[{ on := 2, ground := Ground.data }], guard := none }) (v := .int .i64 (m : Int)) rfl (by kernel_rfl) (by kernel_rfl) (by kernel_rfl) (fun _ _ _ h => h) (Or.inl ⟨by rfl, ?_⟩) (by assumption) ?_
        skip
        · (intro w hSw; (try dsimp only at hSw); go_simp <;> (try simp only [hFm]) <;> (try go_simp)); first | done | with_reducible rfl
        simp only [Act.put, List.setIfInBounds_toArray, List.set_cons_zero, List.set_cons_succ]
        refine wpAnyH_take (i := 4) (oi := { dst := some 22, op := Op.binOp BinOp.add 3 (Operand.tmp 21) (Operand.const (Value.int IntKind.i64 1)) 3, type := 3, pos := "ref.go:279", after := #[{ on := 3, ground := Ground.data }], guard := none }) (v := .int .i64 (q : Int)) rfl (by kernel_rfl) (by kernel_rfl) (by kernel_rfl) (fun _ _ _ h => h) (Or.inl ⟨by rfl, ?_⟩) (by assumption) ?_
        skip
        · (intro w hSw; (try dsimp only at hSw); go_simp <;> (try simp only [hFm, hwm]) <;> (try go_simp)); first | done | with_reducible rfl
        simp only [Act.put, List.setIfInBounds_toArray, List.set_cons_zero, List.set_cons_succ]
        refine wpAnyH_take (i := 5) (oi := { dst := some 23, op := Op.binOp BinOp.neq 3 (Operand.tmp 19) (Operand.tmp 22) 3, type := 4, pos := "ref.go:279", after := #[{ on := 1, ground := Ground.data }, { on := 4, ground := Ground.data }], guard := none }) (v := .bool true) rfl (by kernel_rfl) (by kernel_rfl) (by kernel_rfl) (fun _ _ _ h => h) (Or.inl ⟨by rfl, ?_⟩) (by assumption) ?_
        skip
        · (intro w hSw; (try dsimp only at hSw); go_simp <;> (try simp only [f5]) <;> (try go_simp)); first | done | with_reducible rfl
        simp only [Act.put, List.setIfInBounds_toArray, List.set_cons_zero, List.set_cons_succ]
        refine wpAnyH_take (i := 6) (oi := { dst := some 24, op := Op.move (Operand.tmp 23), type := 4, pos := "ref.go:279", after := #[{ on := 5, ground := Ground.data }], guard := none }) (v := ?_) rfl (by kernel_rfl) (by kernel_rfl) (by kernel_rfl) (fun _ _ _ h => h) (Or.inl ⟨by rfl, ?_⟩) (by assumption) ?_
        rotate_left
        · (intro w hSw; (try dsimp only at hSw); go_simp); first | done | with_reducible rfl
        simp only [Act.put, List.setIfInBounds_toArray, List.set_cons_zero, List.set_cons_succ]
        refine wpAnyH_take (i := 7) (oi := { dst := some 25, op := Op.move (Operand.tmp 0), type := 30, pos := "ref.go:279", after := #[{ on := 6, ground := Ground.guard }], guard := some (6, false) }) (v := undef) rfl (by kernel_rfl) (by kernel_rfl) (by kernel_rfl) (fun _ _ _ h => h) (Or.inr ⟨by rfl, by rfl⟩) (by assumption) ?_
        simp only [Act.put, List.setIfInBounds_toArray, List.set_cons_zero, List.set_cons_succ]
        refine wpAnyH_take (i := 8) (oi := { dst := some 26, op := Op.indexAddr 30 (Operand.tmp 25) (Operand.const (Value.int IntKind.i64 0)), type := 0, pos := "ref.go:279", after := #[{ on := 7, ground := Ground.data }, { on := 6, ground := Ground.guard }], guard := some (6, false) }) (v := undef) rfl (by kernel_rfl) (by kernel_rfl) (by kernel_rfl) (fun _ _ _ h => h) (Or.inr ⟨by rfl, by rfl⟩) (by assumption) ?_
        simp only [Act.put, List.setIfInBounds_toArray, List.set_cons_zero, List.set_cons_succ]
        refine wpAnyH_take (i := 9) (oi := { dst := some 27, op := Op.load 9 (Operand.tmp 26), type := 9, pos := "ref.go:279", after := #[{ on := 8, ground := Ground.data }, { on := 6, ground := Ground.guard }], guard := some (6, false) }) (v := undef) rfl (by kernel_rfl) (by kernel_rfl) (by kernel_rfl) (fun _ _ _ h => h) (Or.inr ⟨by rfl, by rfl⟩) (by assumption) ?_
        simp only [Act.put, List.setIfInBounds_toArray, List.set_cons_zero, List.set_cons_succ]
        refine wpAnyH_take (i := 10) (oi := { dst := some 28, op := Op.move (Operand.tmp 4), type := 3, pos := "ref.go:279", after := #[{ on := 6, ground := Ground.guard }], guard := some (6, false) }) (v := undef) rfl (by kernel_rfl) (by kernel_rfl) (by kernel_rfl) (fun _ _ _ h => h) (Or.inr ⟨by rfl, by rfl⟩) (by assumption) ?_
        simp only [Act.put, List.setIfInBounds_toArray, List.set_cons_zero, List.set_cons_succ]
        refine wpAnyH_take (i := 11) (oi := { dst := some 29, op := Op.call { callee := Callee.value (Operand.func 23), args := #[Operand.tmp 28], argTypes := #[3] }, type := 9, pos := "ref.go:279", after := #[{ on := 10, ground := Ground.data }, { on := 6, ground := Ground.chain }, { on := 6, ground := Ground.guard }], guard := some (6, false) }) (v := undef) rfl (by kernel_rfl) (by kernel_rfl) (by kernel_rfl) (fun _ _ _ h => h) (Or.inr ⟨by rfl, by rfl⟩) (by assumption) ?_
        simp only [Act.put, List.setIfInBounds_toArray, List.set_cons_zero, List.set_cons_succ]
        refine wpAnyH_take (i := 12) (oi := { dst := some 30, op := Op.binOp BinOp.neq 9 (Operand.tmp 27) (Operand.tmp 29) 9, type := 4, pos := "ref.go:279", after := #[{ on := 9, ground := Ground.data }, { on := 11, ground := Ground.data }, { on := 6, ground := Ground.guard }], guard := some (6, false) }) (v := undef) rfl (by kernel_rfl) (by kernel_rfl) (by kernel_rfl) (fun _ _ _ h => h) (Or.inr ⟨by rfl, by rfl⟩) (by assumption) ?_
        simp only [Act.put, List.setIfInBounds_toArray, List.set_cons_zero, List.set_cons_succ]
        refine wpAnyH_take (i := 13) (oi := { dst := some 31, op := Op.pick (Operand.tmp 24) (Operand.const (Value.bool true)) (Operand.tmp 30), type := 4, pos := "ref.go:279", after := #[{ on := 6, ground := Ground.data }, { on := 12, ground := Ground.data }], guard := none }) (v := ?_) rfl (by kernel_rfl) (by kernel_rfl) (by kernel_rfl) (fun _ _ _ h => h) (Or.inl ⟨by rfl, ?_⟩) (by assumption) ?_
        rotate_left
        · (intro w hSw; (try dsimp only at hSw); go_simp); first | done | with_reducible rfl
        simp only [Act.put, List.setIfInBounds_toArray, List.set_cons_zero, List.set_cons_succ]
        refine wpAnyH_done (by kernel_rfl) ?_ _
        clear hHeld
        go_wp2_with fail
        go_roundw
        case rel => exact ⟨k + 1, by omega, by go_num, HNo2, HS3⟩
        case measure => simp [intOf]; omega
    · have hkI : ¬ (k : Int) ≤ 16 := by omega
      have HN : Hid (stepP ws = none) := stepP_no fun j hj => HNo.out j (by omega)
      obtain ⟨w8, hst8, hx8, k8⟩ := zero_put HS.out.z
      have HX8 := hide hx8
      have HB8 : Hid (Below w.heap.size w w8) := HS.out.b.trans (k8.below (Nat.le_refl _) HS.out.b.size)
      clear hx8 k8
      go_wp2_with fail
      exact bodyPost_ret (res2O Tryz.results12 rfl rfl HX8.out) rfl ⟨StA.no HN.out, HB8.out⟩
end Go.Proofs.YtpnnlfhknnnfhaaGreatDoor
