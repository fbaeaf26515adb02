/- ParseOp, Plain; == of steps. -/
import Derived.Test.YtpnnlfhknnnfhaaGreatDoorKSt
import Derived.Laws.StructEq
import Derived.OrdersHeld
namespace Go.Proofs.YtpnnlfhknnnfhaaGreatDoor
open Go.RowKit T Y V
variable {w w' w2 : World} {g : Nat}

/-- the same step -/
def eqO (x y : Sp) : Bool := x.kind == y.kind && x.rep == y.rep && x.cart == y.cart && x.dst == y.dst && x.sku.toList == y.sku.toList && x.qty == y.qty && x.nr == y.nr
theorem toList_inj {a b : ByteArray} (h : a.toList = b.toList) : a = b := by
  rw [ByteArray.toList_eq, ByteArray.toList_eq] at h
  exact ByteArray.ext (Array.toList_inj.1 h)
theorem eqO_iff (x y : Sp) : eqO x y = true ↔ x = y := by
  constructor
  · intro h
    unfold eqO at h
    simp only [Bool.and_eq_true, beq_iff_eq] at h
    obtain ⟨⟨⟨⟨⟨⟨h1, h2⟩, h3⟩, h4⟩, h5⟩, h6⟩, h7⟩ := h
    cases x
    cases y
    simp only at h1 h2 h3 h4 h5 h6 h7
    rw [h1, h2, h3, h4, toList_inj h5, h6, h7]
  · rintro rfl
    simp [eqO]
theorem run_eqO (x y : Sp) (w : World) : (Op.equalIn 10000 24 (.agg (OC x)) (.agg (OC y))).run Tryz.prog w = .ok (eqO x y) w := by
  have u3 := Tryz.underlying3
  have a3 := Tryz.isAgg3
  have z3 := Tryz.sizeOf3
  have a9 := Tryz.isAgg9
  have z9 := Tryz.sizeOf9
  have hS : Tryz.prog.underlying 24 = some (.struct (Tryz.prog.fieldsOf 24)) := by kernel_rfl
  have hp : Tryz.prog.stoodInHeld 24 = false := by kernel_rfl
  obtain ⟨a, b, c, d, s, e, f⟩ := x
  obtain ⟨a', b', c', d', s', e', f'⟩ := y
  show (Op.equalIn 10000 24 (.agg #[.int .i64 a, .int .i64 b, .int .i64 c, .int .i64 d, .string s, .int .i64 e, .int .i64 f]) (.agg #[.int .i64 a', .int .i64 b', .int .i64 c', .int .i64 d', .string s', .int .i64 e', .int .i64 f'])).run Tryz.prog w = .ok (a == a' && b == b' && c == c' && d == d' && s.toList == s'.toList && e == e' && f == f') w
  rw [show (10000 : Nat) = 9999 + 1 from rfl, run_equalIn_struct w 9999 24 _ _ hS hp]
  simp only [Program.fieldsOf, Tryz.underlying24]
  have h3 : ∀ (p q : Int) w, (Op.equalIn 9999 3 (.int .i64 p) (.int .i64 q)).run Tryz.prog w = .ok (p == q) w := fun p q w => run_equalIn_int w 9998 3 .i64 .i64 p q Tryz.underlying3
  have h9 : ∀ w, (Op.equalIn 9999 9 (.string s) (.string s')).run Tryz.prog w = .ok (s.toList == s'.toList) w := fun w => run_equalIn_string w 9998 9 s s' Tryz.underlying9
  obtain ⟨D, hD⟩ : ∃ D, 9999 = D := ⟨9999, rfl⟩
  rw [hD] at h3 h9 ⊢
  generalize s.toList = sl at h9 ⊢
  generalize s'.toList = sl' at h9 ⊢
  by_cases e1 : a = a'
  · by_cases e2 : b = b'
    · by_cases e3 : c = c'
      · by_cases e4 : d = d'
        · by_cases e5 : sl = sl'
          · by_cases e6 : e = e'
            · by_cases e7 : f = f' <;> go_simp
            · go_simp
          · go_simp
        · go_simp
      · go_simp
    · go_simp
  · go_simp
theorem cutR_bound : ∀ (m : Nat) (l : List UInt8), l.length ≤ m → ∀ ws, cutR l = some ws → ws.length ≤ l.length ∧ ∀ x ∈ ws, x.length ≤ l.length
  | m, l, hm, ws, h => by
    have hl : (skipG l).length ≤ l.length := (List.dropWhile_sublist _).length_le
    cases hw : wlen (skipG l) with
    | none =>
      by_cases h0 : skipG l = []
      · rw [cutR_nil h0] at h
        obtain rfl := Option.some.inj h
        exact ⟨by simp, by simp⟩
      · rw [cutR_none rfl h0 hw] at h
        cases h
    | some n =>
      rw [cutR_some rfl hw] at h
      obtain ⟨vs, hv, rfl⟩ := Option.map_eq_some_iff.1 h
      have hn := wlen_pos hw
      have hn2 := wlen_le hw
      match m, hm with
      | 0, hm => omega
      | m + 1, hm =>
        have h2 := cutR_bound m ((skipG l).drop n) (by rw [List.length_drop]; omega) vs hv
        rw [List.length_drop] at h2
        refine ⟨by rw [List.length_cons]; omega, fun x hx => ?_⟩
        rcases List.mem_cons.1 hx with rfl | hx
        · rw [List.length_take]; omega
        · have := h2.2 x hx; omega
theorem cutP_bound {l : List UInt8} {ws : List (List UInt8)} (h : cutP l = some ws) : ws.length ≤ l.length ∧ ∀ x ∈ ws, x.length ≤ l.length := by
  unfold cutP at h
  split at h
  · obtain rfl := Option.some.inj h
    exact ⟨by simp, by simp⟩
  · exact cutR_bound _ l (Nat.le_refl _) ws h
attribute [local go_sem ↓] ldSh_eq stSh_eq ldO_eq stO_eq
theorem CutA.yes {ws : List (List UInt8)} {e : Ending} (h : CutA w w' (some ws) e) : ∃ bo n c, e = .returned (.tuple #[.slice bo n c, .bool true]) ∧ SR w' bo n c (ws.map bs) ∧ ∀ k, blk bo = some k → w.heap.size ≤ k := h
/-- ParseOp's answer -/
def PoA (l : List UInt8) (e : Ending) : Prop := e = .returned (.tuple #[.agg (OC ((parseOpP l).getD sp0)), .int .i64 (if (parseOpP l).isSome = true then 0 else 17)])
theorem PoA.no {l : List UInt8} (h : parseOpP l = none) : PoA l (.returned (.tuple #[.agg (OC sp0), .int .i64 17])) := by unfold PoA; rw [h]; rfl
theorem PoA.yes {l : List UInt8} {o : Sp} (h : parseOpP l = some o) : PoA l (.returned (.tuple #[.agg (OC o), .int .i64 0])) := by unfold PoA; rw [h]; rfl
set_option maxRecDepth 100000 in
set_option maxHeartbeats 3200000 in
theorem parseOp_any (l : List UInt8) (hl : l.length ≤ 1000000000000) (w : World) (ht : Tab w) (hs : Sht w) (he : Evs w) : Calls Tryz.prog 5 #[.string (bs l)] w fun e w' => PoA l e ∧ Below w.heap.size w w' := by
  obtain ⟨w1, hw1, hz1, hb1, hs1⟩ := zero_made w
  have HC := hide (cut_any l hl w1)
  have HT := hide (ht.on hb1)
  have HS := hide (hs.on hb1)
  have HE := hide (he.on hb1)
  have HZ := hide hz1
  have HB := hide hb1
  cases hc : cutP l with
  | none =>
    have HN : Hid (parseOpP l = none) := by show _ = _; unfold parseOpP; rw [hc]; rfl
    rw [hc] at HC
    clear ht hs he hz1 hb1 hs1 hc
    go_enter Tryz.func5, Tryz.ntmps5
    go_wp2_with (go_at_call 8; refine HC.out.mono ?_; rintro e w2 ⟨he2, b2⟩; obtain rfl : e = _ := he2; obtain ⟨w3, hst, hx3, k3⟩ := zero_put (HZ.out.below b2); have HX3 := hide hx3; have bw2 := HB.out.trans (b2.mono HB.out.size); have HB3 : Hid (Below w.heap.size w w3) := bw2.trans (k3.below (Nat.le_refl _) bw2.size); clear hx3 k3 bw2)
    exact bodyPost_ret (res2O Tryz.results5 rfl rfl HX3.out) rfl ⟨PoA.no HN.out, HB3.out⟩
  | some ws =>
    have hbd := cutP_bound hc
    rw [hc] at HC
    have HP : Hid (parseOpP l = stepP ws) := by show _ = _; unfold parseOpP; rw [hc]; rfl
    have HST : Hid (∀ bo n c v, SR v bo n c (ws.map bs) → Tab v → Sht v → Evs v → Calls Tryz.prog 9 #[.slice bo n c] v fun e w' => StA ws e ∧ Below v.heap.size v w') := fun bo n c v hR h1 h2 h3 => step_any bo n c ws v hR (by have := hR.len; rw [List.length_map] at this; omega) (fun x hx => by have := hbd.2 x hx; omega) h1 h2 h3
    cases hst : stepP ws with
    | none =>
      have HN : Hid (parseOpP l = none) := by show _ = _; rw [HP.out, hst]
      have HST2 : Hid (∀ bo n c v, SR v bo n c (ws.map bs) → Tab v → Sht v → Evs v → Calls Tryz.prog 9 #[.slice bo n c] v fun e w' => e = .returned (.tuple #[.agg (OC sp0), .bool false]) ∧ Below v.heap.size v w') := fun bo n c v hR h1 h2 h3 => (HST.out bo n c v hR h1 h2 h3).mono fun e w' ⟨h, hb⟩ => ⟨by unfold StA at h; rw [hst] at h; exact h, hb⟩
      clear ht hs he hz1 hb1 hs1 hc hbd hst HST HP
      go_enter Tryz.func5, Tryz.ntmps5
      go_wp2_with (first | (go_at_call 8; refine HC.out.mono ?_; rintro e w2 ⟨he2, b2⟩; obtain ⟨bo, n, c, rfl, hR2, -⟩ := CutA.yes he2; have HR2 := hide hR2; have HB2 := hide b2; clear hR2 b2 he2) | (go_at_call 9; refine (HST2.out _ _ _ _ HR2.out (HT.out.on HB2.out) (HS.out.on HB2.out) (HE.out.on HB2.out)).mono ?_; rintro e w3 ⟨rfl, b3⟩; have hz3 := (HZ.out.below HB2.out).below b3; obtain ⟨w4, hst4, hx4, hb4, -⟩ := madeO w3 sp0 w3.heap.size rfl; have hst4' : (stO (.pointer (some ⟨w3.heap.size, 0, none⟩)) (.agg (OC sp0))).run Tryz.prog (w3.alloc (.cells #[.int .i64 0, .int .i64 0, .int .i64 0, .int .i64 0, .string ⟨#[]⟩, .int .i64 0, .int .i64 0] 24)) = .ok () w4 := hst4; obtain ⟨w5, hst5, hx5, k5⟩ := zero_put (hz3.below hb4); have HX5 := hide hx5; have bw2 := HB.out.trans (HB2.out.mono HB.out.size); have bw3 := bw2.trans (b3.mono bw2.size); have bw4 := bw3.trans (hb4.mono bw3.size); have HB5 : Hid (Below w.heap.size w w5) := bw4.trans (k5.below (Nat.le_refl _) bw4.size); clear hx4 hb4 hx5 k5 bw2 bw3 bw4 hz3 hst4))
      exact bodyPost_ret (res2O Tryz.results5 rfl rfl HX5.out) rfl ⟨PoA.no HN.out, HB5.out⟩
    | some o =>
      have HN : Hid (parseOpP l = some o) := by show _ = _; rw [HP.out, hst]
      have HST2 : Hid (∀ bo n c v, SR v bo n c (ws.map bs) → Tab v → Sht v → Evs v → Calls Tryz.prog 9 #[.slice bo n c] v fun e w' => e = .returned (.tuple #[.agg (OC o), .bool true]) ∧ Below v.heap.size v w') := fun bo n c v hR h1 h2 h3 => (HST.out bo n c v hR h1 h2 h3).mono fun e w' ⟨h, hb⟩ => ⟨by unfold StA at h; rw [hst] at h; exact h, hb⟩
      clear ht hs he hz1 hb1 hs1 hc hbd hst HST HP
      go_enter Tryz.func5, Tryz.ntmps5
      go_wp2_with (first | (go_at_call 8; refine HC.out.mono ?_; rintro e w2 ⟨he2, b2⟩; obtain ⟨bo, n, c, rfl, hR2, -⟩ := CutA.yes he2; have HR2 := hide hR2; have HB2 := hide b2; clear hR2 b2 he2) | (go_at_call 9; refine (HST2.out _ _ _ _ HR2.out (HT.out.on HB2.out) (HS.out.on HB2.out) (HE.out.on HB2.out)).mono ?_; rintro e w3 ⟨rfl, b3⟩; have hz3 := (HZ.out.below HB2.out).below b3; obtain ⟨w4, hst4, hx4, hb4, -⟩ := madeO w3 o w3.heap.size rfl; have hst4' : (stO (.pointer (some ⟨w3.heap.size, 0, none⟩)) (.agg (OC o))).run Tryz.prog (w3.alloc (.cells #[.int .i64 0, .int .i64 0, .int .i64 0, .int .i64 0, .string ⟨#[]⟩, .int .i64 0, .int .i64 0] 24)) = .ok () w4 := hst4; have hld4 := run_ldO hx4; obtain ⟨w5, hst5, hx5, k5⟩ := op_put (o := o) (hz3.below hb4); have HX5 := hide hx5; have bw2 := HB.out.trans (HB2.out.mono HB.out.size); have bw3 := bw2.trans (b3.mono bw2.size); have bw4 := bw3.trans (hb4.mono bw3.size); have HB5 : Hid (Below w.heap.size w w5) := bw4.trans (k5.below (Nat.le_refl _) bw4.size); clear hx4 hb4 hx5 k5 bw2 bw3 bw4 hz3 hst4))
      exact bodyPost_ret (res2O Tryz.results5 rfl rfl HX5.out) rfl ⟨PoA.yes HN.out, HB5.out⟩
end Go.Proofs.YtpnnlfhknnnfhaaGreatDoor
