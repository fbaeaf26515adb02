/- settle.Ops; the law's sameOps. -/
import Derived.Test.YtinicdnpkihbkaaEOr
namespace Go.Proofs.Ytinicdnpkihbkaa
open Go.RowKit
variable {w w' w2 : World} {g : Nat}

def opOf (kd : Int) (p : Pr) : Opp := ⟨kd, p.f, 0, p.t, ⟨#[]⟩, 0, 0⟩
theorem ocs_lit (kd f t : Int) : (#[.int .i64 kd, .int .i64 f, .int .i64 0, .int .i64 t, .string ⟨#[]⟩, .int .i64 0, .int .i64 0] : Array Value).toList = ocs [opOf kd ⟨f, t⟩] := rfl
theorem makeO (w : World) (n : Nat) (hn : n ≤ 2199023255452) : ∃ w', (Instr.makeSlice 39 (.int .i64 0) (.int .i64 (n : Int))).run Try.prog w = .ok (.slice (some ⟨w.heap.size, 0, none⟩) 0 n) w' ∧ OR w' (some ⟨w.heap.size, 0, none⟩) 0 n [] ∧ NewB w w' (some ⟨w.heap.size, 0, none⟩) := by
  obtain ⟨i0, hi, hz0, hz1, hz2⟩ := info_parts infoO
  obtain ⟨w', h1, h2, h3⟩ := run_make_own (P := Try.prog) w 0 39 43 i0 _ 7 Try.underlying39 hi hz0 hz1 .i64 .i64 n (by rw [hz2]; omega) (by unfold maxLen; omega) (Nat.zero_le _)
  exact ⟨w', h1, h2, ⟨h3.os, h3.tape, h3.output, h3.size, fun k hk => h3.block k hk (fun e => by cases e)⟩, fun k hk => Nat.le_of_eq (Option.some.inj hk)⟩
/-- a row of ops that grows -/
structure GrO (w wr : World) (ao : Option Addr) (m c : Nat) (L : List Opp) : Prop where
  r : OR wr ao m c L
  a : NewB w wr ao
theorem GrO.below {wr w2 : World} {ao : Option Addr} {m c : Nat} {L : List Opp} (h : GrO w wr ao m c L) (hb : Below wr.heap.size wr w2) : GrO w w2 ao m c L := ⟨h.r.below hb, h.a.below hb⟩
theorem GrO.app {wr w2 : World} {ao bo : Option Addr} {m c c2 k : Nat} {L M : List Opp} (h : GrO w wr ao m c L) (hr : OR w2 bo (m + k) c2 (L ++ M)) (ha : Ap wr w2 ao bo) : GrO w w2 bo (m + k) c2 (L ++ M) := ⟨hr, h.a.ap ha⟩
theorem take_next {α β : Type} (f : α → β) (X : List α) (d : α) (k : Nat) (h : k < X.length) : (X.take (k + 1)).map f = (X.take k).map f ++ [f (X.getD k d)] := by
  rw [List.take_succ_eq_append_getElem h, List.map_append]
  simp [List.getD, h]
def kdOf (b : Bool) : Int := if b then 9 else 8
section
attribute [local go_sem ↓] ldP_eq stP_eq
set_option maxRecDepth 100000 in
theorem ops_any (ao : Option Addr) (n c : Nat) (L : List Pr) (b : Bool) (w : World) (S : PSrc w ao n c L) (hn : n ≤ 2199023255451) : Calls Try.prog 16 #[.slice ao n c, .bool b] w fun e w' =>
    ∃ bo cc, e = .returned (.slice bo n cc) ∧ OR w' bo n cc (L.map (opOf (kdOf b))) ∧ NewB w w' bo := by
  have HL : Hid (L.length = n) := S.len
  have HS := hide S
  have hmk : ∀ w : World, ∃ w', (Instr.makeSlice 39 (.int .i64 0) (.int .i64 (n : Int))).run Try.prog w = .ok (.slice (some ⟨w.heap.size, 0, none⟩) 0 n) w' ∧ OR w' (some ⟨w.heap.size, 0, none⟩) 0 n [] ∧ NewB w w' (some ⟨w.heap.size, 0, none⟩) := fun w => makeO w n (by omega)
  obtain ⟨w1, hm1, R1, N1⟩ := hmk w
  have HG1 : Hid (GrO w w1 (some ⟨w.heap.size, 0, none⟩) 0 n []) := ⟨R1, N1⟩
  clear S hmk R1 N1
  cases b
  · show Calls _ _ _ _ fun e w' => ∃ bo cc, e = .returned (.slice bo n cc) ∧ OR w' bo n cc (L.map (opOf 8)) ∧ NewB w w' bo
    go_enter Try.func16, Try.ntmps16
    go_wp2_with fail
    go_loopw [6, 15] (fun p i wr => ∃ (k : Nat) (bo : Option Addr) (m cc : Nat), k ≤ n ∧ i = .int .i64 k ∧ p = .slice bo m cc ∧ Hid (m = k) ∧ Hid (GrO w wr bo m cc ((L.take k).map (opOf 8)))) (fun _ i _ => n - (intOf i).toNat)
    case atStart => exact ⟨0, _, 0, n, Nat.zero_le _, rfl, rfl, rfl, HG1⟩
    case round =>
      clear HG1 hm1
      obtain ⟨k, bo, m, cc, hk, rfl, rfl, HK, HG⟩ := hrel
      by_cases hlt : k < n
      · obtain ⟨ad, rfl, x⟩ := (HS.out.below HG.out.a.1).at k hlt
        have HT := hide (take_next (opOf 8) L p0 k (by have := HL.out; omega))
        obtain ⟨q, hq⟩ : ∃ q, L.getD k p0 = q := ⟨_, rfl⟩
        rw [hq] at x HT
        obtain ⟨f, t⟩ := q
        have x0 : (ldP (.pointer (some (ad.add (k * 2))))).run Try.prog wr = .ok (.agg #[.int .i64 f, .int .i64 t]) wr := run_laP x
        obtain ⟨w3, hst, hbx, hbl, -⟩ := madeP wr ⟨f, t⟩ wr.heap.size rfl
        have hst' : (stP (.pointer (some ⟨wr.heap.size, 0, none⟩)) (.agg #[.int .i64 f, .int .i64 t])).run Try.prog (wr.alloc (.cells #[.int .i64 0, .int .i64 0] 28)) = .ok () w3 := hst
        have c0 := hbx.c0
        have c1 := hbx.c1
        simp only at c0 c1
        have HG3 := hide (HG.out.below hbl)
        have HR3 := hide HG3.out.r
        have HM : Hid (m + 1 ≤ 2199023255452) := by show _ ≤ _; have := HK.out; omega
        clear hst hbx hbl HG hq x
        go_wp2_with (at_builtin; refine HR3.out.app (L := [opOf 8 ⟨f, t⟩]) (m := 1) rfl (ocs_lit _ _ _) HM.out rfl (.tmp 19) (.tmp 26) rfl rfl rfl ?_; intro b4 c4 w4 R4 A4; have HG4 := hide (HG3.out.app R4 A4); clear R4 A4)
        go_roundw
        case rel => exact ⟨k + 1, b4, m + 1, c4, by omega, by go_num, rfl, by show _ = _; rw [HK.out], by show GrO _ _ _ _ _ _; rw [HT.out]; exact HG4.out⟩
        case measure => simp [intOf]; omega
      · obtain rfl : k = n := by omega
        have HE : Hid (List.take k L = L) := List.take_of_length_le (by have := HL.out; omega)
        go_wp2_with fail
        go_ret
        rw [HE.out] at HG
        obtain rfl := HK.out
        exact ⟨_, _, rfl, HG.out.r, HG.out.a⟩
  · show Calls _ _ _ _ fun e w' => ∃ bo cc, e = .returned (.slice bo n cc) ∧ OR w' bo n cc (L.map (opOf 9)) ∧ NewB w w' bo
    go_enter Try.func16, Try.ntmps16
    go_wp2_with fail
    go_loopw [6, 15] (fun p i wr => ∃ (k : Nat) (bo : Option Addr) (m cc : Nat), k ≤ n ∧ i = .int .i64 k ∧ p = .slice bo m cc ∧ Hid (m = k) ∧ Hid (GrO w wr bo m cc ((L.take k).map (opOf 9)))) (fun _ i _ => n - (intOf i).toNat)
    case atStart => exact ⟨0, _, 0, n, Nat.zero_le _, rfl, rfl, rfl, HG1⟩
    case round =>
      clear HG1 hm1
      obtain ⟨k, bo, m, cc, hk, rfl, rfl, HK, HG⟩ := hrel
      by_cases hlt : k < n
      · obtain ⟨ad, rfl, x⟩ := (HS.out.below HG.out.a.1).at k hlt
        have HT := hide (take_next (opOf 9) L p0 k (by have := HL.out; omega))
        obtain ⟨q, hq⟩ : ∃ q, L.getD k p0 = q := ⟨_, rfl⟩
        rw [hq] at x HT
        obtain ⟨f, t⟩ := q
        have x0 : (ldP (.pointer (some (ad.add (k * 2))))).run Try.prog wr = .ok (.agg #[.int .i64 f, .int .i64 t]) wr := run_laP x
        obtain ⟨w3, hst, hbx, hbl, -⟩ := madeP wr ⟨f, t⟩ wr.heap.size rfl
        have hst' : (stP (.pointer (some ⟨wr.heap.size, 0, none⟩)) (.agg #[.int .i64 f, .int .i64 t])).run Try.prog (wr.alloc (.cells #[.int .i64 0, .int .i64 0] 28)) = .ok () w3 := hst
        have c0 := hbx.c0
        have c1 := hbx.c1
        simp only at c0 c1
        have HG3 := hide (HG.out.below hbl)
        have HR3 := hide HG3.out.r
        have HM : Hid (m + 1 ≤ 2199023255452) := by show _ ≤ _; have := HK.out; omega
        clear hst hbx hbl HG hq x
        go_wp2_with (at_builtin; refine HR3.out.app (L := [opOf 9 ⟨f, t⟩]) (m := 1) rfl (ocs_lit _ _ _) HM.out rfl (.tmp 19) (.tmp 26) rfl rfl rfl ?_; intro b4 c4 w4 R4 A4; have HG4 := hide (HG3.out.app R4 A4); clear R4 A4)
        go_roundw
        case rel => exact ⟨k + 1, b4, m + 1, c4, by omega, by go_num, rfl, by show _ = _; rw [HK.out], by show GrO _ _ _ _ _ _; rw [HT.out]; exact HG4.out⟩
        case measure => simp [intOf]; omega
      · obtain rfl : k = n := by omega
        have HE : Hid (List.take k L = L) := List.take_of_length_le (by have := HL.out; omega)
        go_wp2_with fail
        go_ret
        rw [HE.out] at HG
        obtain rfl := HK.out
        exact ⟨_, _, rfl, HG.out.r, HG.out.a⟩
end
theorem run_neO (x : Opp) (w : World) : (binOp .neq 43 (.agg (OC x)) (.agg (OC x))).run Try.prog w = .ok (.bool false) w := by
  have hE : (Op.equalIn 10000 43 (.agg (OC x)) (.agg (OC x))).run Try.prog w = .ok true w := by
    have u3 := Try.underlying3
    have a3 := Try.isAgg3
    have z3 := Try.sizeOf3
    have a9 := Try.isAgg9
    have z9 := Try.sizeOf9
    have hS : Try.prog.underlying 43 = some (.struct (Try.prog.fieldsOf 43)) := by kernel_rfl
    have hp : Try.prog.stoodInHeld 43 = false := by kernel_rfl
    unfold OC
    rw [show (10000 : Nat) = 9999 + 1 from rfl, run_equalIn_struct w 9999 43 _ _ hS hp]
    simp only [Program.fieldsOf, Try.underlying43]
    have h3 : ∀ (p : Int) w, (Op.equalIn 9999 3 (.int .i64 p) (.int .i64 p)).run Try.prog w = .ok true w := fun p w => by
      rw [run_equalIn_int w 9998 3 .i64 .i64 p p Try.underlying3]; simp
    have h9 : ∀ (p : ByteArray) w, (Op.equalIn 9999 9 (.string p) (.string p)).run Try.prog w = .ok true w := fun p w => by
      rw [run_equalIn_string w 9998 9 p p Try.underlying9]; simp
    obtain ⟨D, hD⟩ : ∃ D, 9999 = D := ⟨9999, rfl⟩
    rw [hD] at h3 h9 ⊢
    go_simp
  rw [run_neq_struct, hE]
  rfl
theorem run_egO (x : Opp) (o p : Operand) (w : World) : (eqGuard .neq 43 o p (.agg (OC x)) (.agg (OC x))).run Try.prog w = .ok () w := run_eqGuard_agg w .neq 43 o p _ _ (by kernel_rfl)
section
attribute [local go_sem ↓] ldO_eq stO_eq
set_option maxRecDepth 100000 in
theorem sameOps_true (ao : Option Addr) (n c : Nat) (L : List Opp) (bo : Option Addr) (m c' : Nat) (M : List Opp) (w : World) (hY : OSrc w ao n c L) (hZ : OSrc w bo m c' M) (he : L = M) (hn : n ≤ 140737488355328) :
    Calls Try.prog 17 #[.slice ao n c, .slice bo m c'] w fun e w' => e = .returned (.bool true) ∧ Below w.heap.size w w' := by
  subst he
  obtain rfl : n = m := by rw [← hY.len, ← hZ.len]
  have HY := hide hY
  have HZ := hide hZ
  clear hY hZ
  go_enter Try.func17, Try.ntmps17
  go_wp2_with fail
  go_loopw [13] (fun i wr => ∃ k : Nat, k ≤ n ∧ i = .int .i64 k ∧ Hid (Below w.heap.size w wr)) (fun i _ => n - (intOf i).toNat)
  case atStart => exact ⟨0, Nat.zero_le _, rfl, Below.refl _ _⟩
  case round =>
    obtain ⟨k, hk, rfl, HB⟩ := hrel
    by_cases hlt : k < n
    · obtain ⟨ad, rfl, x⟩ := (HY.out.below HB.out).at k hlt
      obtain ⟨bd, rfl, y⟩ := (HZ.out.below HB.out).at k hlt
      obtain ⟨f, hf⟩ : ∃ f, L.getD k o0 = f := ⟨_, rfl⟩
      rw [hf] at x y
      have x0 : ∀ q, (ldO (.pointer (some (ad.add (k * 7))))).run Try.prog (wr.drewN q) = .ok (.agg (OC f)) (wr.drewN q) := fun q => run_laO (x.on (below_drewN wr q))
      have y0 : ∀ q, (ldO (.pointer (some (bd.add (k * 7))))).run Try.prog (wr.drewN q) = .ok (.agg (OC f)) (wr.drewN q) := fun q => run_laO (y.on (below_drewN wr q))
      have e1 : ∀ w : World, (binOp .neq 43 (.agg (OC f)) (.agg (OC f))).run Try.prog w = .ok (.bool false) w := run_neO f
      have e2 : ∀ (o p : Operand) (w : World), (eqGuard .neq 43 o p (.agg (OC f)) (.agg (OC f))).run Try.prog w = .ok () w := run_egO f
      clear hf x y
      go_wp2_with fail
      go_quiet (fail)
      have HB' := hide (HB.out.trans ((below_drewN wr nq).mono HB.out.size))
      clear HB x0 y0
      go_wp2_with fail
      go_roundw
      case rel => exact ⟨k + 1, by omega, by go_num, HB'⟩
      case measure => simp [intOf]; omega
    · go_wp2_with fail
      go_ret
      exact ⟨rfl, HB.out⟩
end
end Go.Proofs.Ytinicdnpkihbkaa
