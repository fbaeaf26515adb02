/- meets and Match: their contracts. -/
import Derived.Test.YtnlklhjmhienkaaGreatDoorMStep
import Derived.Deep.RegionWith
namespace Go.Proofs.YtnlklhjmhienkaaGreatDoor.M
open Go.RowKit
theorem take_snocB (s : ByteArray) (k : Nat) (h : k < s.size) : s.data.toList.take (k + 1) = s.data.toList.take k ++ [s[k]] := by
  rw [List.take_succ_eq_append_getElem (by simpa using h)]; rfl
theorem good_iff (l : List UInt8) : good l = true ↔ 0 < l.length ∧ l.length ≤ 24 ∧ stands l l.length = true := by
  unfold good ckE
  constructor
  · intro h
    by_cases h0 : l.length = 0
    · rw [if_pos h0] at h; exact absurd h (by decide)
    · rw [if_neg h0] at h
      by_cases h1 : 24 < l.length
      · rw [if_pos h1] at h; exact absurd h (by decide)
      · rw [if_neg h1] at h
        by_cases h2 : stands l l.length = true
        · exact ⟨by omega, by omega, h2⟩
        · rw [if_neg h2] at h; exact absurd h (by decide)
  · rintro ⟨h0, h1, h2⟩
    rw [if_neg (by omega), if_neg (by omega), if_pos h2]; rfl

/-- a whole array of type 93, loaded from and stored to a block of its own -/
def load65 (v : Value) : Sem Value := Instr.loadAt 93 v
def store65 (p v : Value) : Sem Unit := Instr.storeAt 93 p v
theorem load65_eq (v : Value) : Instr.loadAt 93 v = load65 v := rfl
theorem store65_eq (p v : Value) : Instr.storeAt 93 p v = store65 p v := rfl
def isRow (w : World) (g : Nat) : Prop := ∃ R, B25 w g R
def rowOf (w : World) (g : Nat) : Array Value := match w.heap[g]? with | some (.cells cs _ _) => cs | _ => #[]
theorem rowOf_eq {w : World} {g : Nat} {R : Nat → Bool} (h : B25 w g R) : rowOf w g = arrV R := by unfold B25 at h; unfold rowOf; rw [h]
theorem rowOf_drew (w : World) (g : Nat) : rowOf w.drew g = rowOf w g := rfl
theorem run_load65 (w : World) (g : Nat) (h : isRow w g) : (load65 (.pointer (some ⟨g, 0, none⟩))).run Tryz.prog w = .ok (.agg (rowOf w g)) w := by
  obtain ⟨R, hR⟩ := h
  rw [rowOf_eq hR]
  unfold load65
  have := run_loadVar_row (P := Tryz.prog) w g 93 93 (arrV R) (0, 0) _ hR Tryz.underlying93 rfl (by rw [info65, arrV_size])
  simp only [Instr.loadAt, Instr.sureAddr, Sem.run_bind, Sem.run_pure, Result.andThen_ok, this]
theorem run_store65 (w : World) (g : Nat) (R : Nat → Bool) (h : isRow w g) : (store65 (.pointer (some ⟨g, 0, none⟩)) (.agg (arrV R))).run Tryz.prog w = .ok () (w.setRow g (arrV R)) := by
  obtain ⟨R0, hR⟩ := h
  unfold store65
  have := run_storeVar_row (P := Tryz.prog) w g 93 93 (arrV R0) (arrV R) hR (by rw [info65, arrV_size]) (by rw [arrV_size, arrV_size]) (arrV_one R)
  simp only [Instr.storeAt, Instr.sureAddr, Sem.run_bind, Sem.run_pure, Result.andThen_ok, this]
attribute [local go_sem ↓] load65_eq store65_eq
attribute [local go_sem] run_load65 run_store65 rowOf_drew

/-- what a whole pattern reaches -/
def rrun (p l : List UInt8) : Nat → Bool := p.foldl (fun R b => rstep b l R) (fun j => j == 0)
theorem rrun_snoc (p l : List UInt8) (b : UInt8) : rrun (p ++ [b]) l = rstep b l (rrun p l) := by unfold rrun; rw [List.foldl_append]; rfl

set_option maxRecDepth 100000 in
set_option maxHeartbeats 4000000 in
theorem meets_any (p s : ByteArray) (w : World) (hp : p.size ≤ 48) (hs : s.size ≤ 24) :
    Calls Tryz.prog 62 #[.string p, .string s] w fun e w' => e = .returned (.bool (rrun p.data.toList s.data.toList s.size)) ∧ Below w.heap.size w w' := by
  go_enter Tryz.func62, Tryz.ntmps62
  go_wp2
  go_loopw [10] (fun i wr => ∃ k : Nat, k ≤ p.size ∧ i = .int .i64 k ∧ B25 wr w.heap.size (rrun (p.data.toList.take k) s.data.toList) ∧ Below w.heap.size w wr) (fun i _ => p.size - (intOf i).toNat)
  case atStart =>
    refine ⟨0, Nat.zero_le _, rfl, ?_, (Below.refl _ _).alloc (Nat.le_refl _) _⟩
    unfold B25
    rw [heap_alloc_new]
    rfl
  case round =>
    obtain ⟨k, hk, rfl, hB, hb⟩ := hrel
    by_cases hlt : k < p.size
    · have HT := hide (take_snocB p k hlt)
      obtain ⟨R, hR⟩ : ∃ R, rrun (p.data.toList.take k) s.data.toList = R := ⟨_, rfl⟩
      have HR : Hid (rrun (p.data.toList.take (k + 1)) s.data.toList = rstep p[k] s.data.toList R) := by show _ = _; rw [HT.out, rrun_snoc, hR]
      rw [hR] at hB
      clear hR
      have h1 : isRow wr.drew w.heap.size := ⟨R, hB⟩
      have h2 := rowOf_eq hB
      go_wp2
      go_region_with (go_at_call 83; refine (step_any R p[k] s _ hs).mono ?_; rintro e w2 ⟨rfl, hb2⟩; have h3 : isRow w2 w.heap.size := ⟨R, (hb2.block _ (Array.getElem?_eq_some_iff.1 hB).1).trans hB⟩)
      all_goals
        go_wp2
        go_roundw
        case rel =>
          refine ⟨k + 1, by omega, by go_num, ?_, ?_⟩
          · obtain ⟨R2, hR2⟩ := h3
            rw [HR.out]
            exact setRow_heap w2 w.heap.size _ (arrV (rstep p[k] s.data.toList R)) 93 _ hR2
          · have hb3 : Below w.heap.size wr w2 := ⟨hb2.os, hb2.tape, hb2.output, hb2.size, fun i hi => hb2.block i (Nat.lt_of_lt_of_le hi hb.size)⟩
            exact (hb.trans hb3).trans ⟨rfl, rfl, rfl, by simp, fun i hi => setRow_other w2 w.heap.size i _ (by omega)⟩
        case measure => simp [intOf]; omega
    · have ek : p.data.toList.take k = p.data.toList := List.take_of_length_le (by rw [len_at]; omega)
      rw [ek] at hB
      have hc := hB.cell s.size (by omega)
      obtain ⟨x, Hx⟩ : ∃ x, Hid (rrun p.data.toList s.data.toList s.size = x) := ⟨_, rfl⟩
      rw [Hx.out] at hc
      clear ek
      go_wp2
      go_ret
      exact ⟨ret_bool Hx.out.symm, hb⟩

/-- may the byte stand in a pattern? -/
def pb (c : UInt8) : Bool := if c = 42 ∨ c = 63 ∨ c = 35 ∨ c = 64 then true else (lt c || dig c) || mk c
set_option maxHeartbeats 1600000 in
theorem isPatternByte_any (c : UInt8) (w : World) : Calls Tryz.prog 61 #[.int .u8 (c.toNat : Int)] w fun e w' => e = .returned (.bool (pb c)) ∧ w' = w := by
  by_cases h : c = 42 ∨ c = 63 ∨ c = 35 ∨ c = 64
  · have HP : Hid (true = pb c) := by show _ = _; unfold pb; rw [if_pos h]
    rcases h with h | h | h | h
    all_goals
      subst h
      go_enter Tryz.func61, Tryz.ntmps61
      go_wp2
      go_ret
      exact ⟨ret_bool HP.out, rfl⟩
  · have HP : Hid (((lt c || dig c) || mk c) = pb c) := by show _ = _; unfold pb; rw [if_neg h]
    have e1 := ne_bool (n := 42) rfl (fun e => h (Or.inl e) : ¬ c = 42)
    have e2 := ne_bool (n := 63) rfl (fun e => h (Or.inr (Or.inl e)) : ¬ c = 63)
    have e3 := ne_bool (n := 35) rfl (fun e => h (Or.inr (Or.inr (Or.inl e))) : ¬ c = 35)
    have e4 := ne_bool (n := 64) rfl (fun e => h (Or.inr (Or.inr (Or.inr e))) : ¬ c = 64)
    clear h
    obtain ⟨x, Hx⟩ : ∃ x, Hid (lt c = x) := ⟨_, rfl⟩
    obtain ⟨y, Hy⟩ : ∃ y, Hid (dig c = y) := ⟨_, rfl⟩
    rw [Hx.out, Hy.out] at HP
    cases x with
    | true =>
      go_enter Tryz.func61, Tryz.ntmps61
      go_wp2_with (first | (go_at_call 75; refine (isLetter_any c _).mono ?_; rintro e w' ⟨rfl, rfl⟩; rw [Hx.out]) | (go_at_call 15; refine (isDigit_any c _).mono ?_; rintro e w' ⟨rfl, rfl⟩; rw [Hy.out]) | (go_at_call 74; refine (isMark_any c _).mono ?_; rintro e w' ⟨rfl, rfl⟩))
      go_ret
      exact ⟨ret_bool HP.out, rfl⟩
    | false =>
      cases y with
      | true =>
        go_enter Tryz.func61, Tryz.ntmps61
        go_wp2_with (first | (go_at_call 75; refine (isLetter_any c _).mono ?_; rintro e w' ⟨rfl, rfl⟩; rw [Hx.out]) | (go_at_call 15; refine (isDigit_any c _).mono ?_; rintro e w' ⟨rfl, rfl⟩; rw [Hy.out]) | (go_at_call 74; refine (isMark_any c _).mono ?_; rintro e w' ⟨rfl, rfl⟩))
        go_ret
        exact ⟨ret_bool HP.out, rfl⟩
      | false =>
        go_enter Tryz.func61, Tryz.ntmps61
        go_wp2_with (first | (go_at_call 75; refine (isLetter_any c _).mono ?_; rintro e w' ⟨rfl, rfl⟩; rw [Hx.out]) | (go_at_call 15; refine (isDigit_any c _).mono ?_; rintro e w' ⟨rfl, rfl⟩; rw [Hy.out]) | (go_at_call 74; refine (isMark_any c _).mono ?_; rintro e w' ⟨rfl, rfl⟩))
        go_ret
        exact ⟨ret_bool HP.out, rfl⟩

set_option maxHeartbeats 1600000 in
theorem match_any (p s : ByteArray) (w : World) (hp : p.size ≤ 48) (hpb : p.data.toList.all pb = true) (hg : good s.data.toList = true) :
    Calls Tryz.prog 34 #[.string p, .string s] w fun e w' => e = .returned (.tuple #[.bool (rrun p.data.toList s.data.toList s.size), .int .i64 0]) ∧ Below w.heap.size w w' := by
  have HP := hide hpb
  have HG := hide hg
  have HS : Hid (s.size ≤ 24) := by
    show _ ≤ _
    have := (good_iff _).1 hg
    rw [len_at] at this; exact this.2.1
  have HM : Hid (s.size ≤ maxLen) := by show _ ≤ _; have := HS.out; unfold maxLen; omega
  clear hpb hg
  have hp' : ¬ (48 : Int) < p.size := by omega
  go_enter Tryz.func34, Tryz.ntmps34
  go_wp2
  go_loop [12] (fun i => ∃ k : Nat, k ≤ p.size ∧ i = .int .i64 k) (fun i => p.size - (intOf i).toNat)
  case atStart => exact ⟨0, Nat.zero_le _, rfl⟩
  case round =>
    obtain ⟨k, hk, rfl⟩ := hrel
    by_cases hlt : k < p.size
    · have HB : Hid (pb p[k] = true) := by show _ = _; exact (List.all_eq_true.1 HP.out) p[k] (by show p.data[k] ∈ _; simp)
      go_wp2_with (go_at_call 61; refine (isPatternByte_any p[k] _).mono ?_; rintro e w' ⟨rfl, rfl⟩; rw [HB.out])
      go_round
      case rel => exact ⟨k + 1, by omega, by go_num⟩
      case measure => simp [intOf]; omega
    · go_wp2_with (first | (go_at_call 23; refine (good_any s _ HM.out).mono ?_; rintro e w' ⟨rfl, rfl⟩; rw [HG.out]) | (go_at_call 62; refine (meets_any p s _ hp HS.out).mono ?_; rintro e w2 ⟨rfl, hb2⟩))
      go_ret2
      exact ⟨rfl, hb2⟩
end Go.Proofs.YtnlklhjmhienkaaGreatDoor.M
