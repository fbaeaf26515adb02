/- UFn UNv URe -/
import Derived.Test.YtbmjiedpaffifaaGreatDb18
import Derived.WalkLawsBesides
namespace Go.Proofs.YtbmjiedpaffifaaGreat.U
open Go.RowKit

theorem step_or (Z : List Int) (k : Nat) (hk : k ≤ 8) (z V : Int) (hz : Z.getD k 0 = z) (hV : val Z 0 k = V) : bits .or .i64 V (wrap64 (z % 128 * 2 ^ (7 * k))) = val Z 0 (k + 1) := by
  have b1 := val_bd Z 0 k
  rw [hV] at b1
  have e2 : (2 : Int) ^ (7 * k) = 128 ^ k := by rw [Int.pow_mul]; rfl
  have h2 : z % 128 ≤ 127 := by omega
  obtain ⟨e1, v0, c0, c1, _, _⟩ := step_val Z 0 k hk z (z % 128) V (128 ^ k) (by rw [Nat.zero_add]; exact hz) rfl hV rfl
  have e3 : wrap64 (z % 128 * 128 ^ k) = z % 128 * 128 ^ k := by unfold wrap64; omega
  rw [e2, e3, or_add V (z % 128) k hk b1.1 b1.2 (by omega) h2, e1]

set_option maxHeartbeats 1600000 in
theorem first_short (ao : Option Addr) (n cap : Nat) (Z : List Int) (w : World) (hS : Src w ao n cap Z) (hcap : n ≤ cap) (h9 : n ≤ 9) :
    Calls Tryz.prog 79 #[.slice ao n cap] w fun e w' => e = p3 (rdN Z 0) ∧ w' = w := by
  go_enter Tryz.func79, Tryz.ntmps79
  go_wp2
  go_loop [5, 14] (fun s i => ∃ k : Nat, k ≤ n ∧ s = .int .i64 (val Z 0 k) ∧ i = .int .i64 k ∧ Hid (scan Z 0 (9 - k) k = rdN Z 0)) (fun _ i => 9 - (intOf i).toNat)
  case atStart => exact ⟨0, Nat.zero_le _, rfl, rfl, rfl⟩
  case round =>
    obtain ⟨k, hk, rfl, rfl, HK⟩ := hrel
    obtain ⟨V, HV⟩ : ∃ V, Hid (val Z 0 k = V) := ⟨_, rfl⟩
    rw [HV.out]
    by_cases hlt : k < n
    · have hl : ¬ Z.length ≤ 0 + k := by have := hS.1; omega
      obtain ⟨ad, rfl, hcell⟩ := cell_at hS k (by omega)
      have hbd := hS.2.2.2 k
      obtain ⟨z, Hz⟩ : ∃ z, Hid (Z.getD k 0 = z) := ⟨_, rfl⟩
      rw [Hz.out] at hcell hbd
      have HL := hide hl
      have hf : 9 - k = (9 - (k + 1)) + 1 := by omega
      rw [hf] at HK
      have Hz' : Hid (Z.getD (0 + k) 0 = z) := by show _ = _; rw [Nat.zero_add]; exact Hz.out
      have HO := hide (step_or Z k (by omega) z V Hz.out HV.out)
      obtain ⟨O, HO'⟩ : ∃ O, Hid (bits .or .i64 V (wrap64 (z % 128 * 2 ^ (7 * k))) = O) := ⟨_, rfl⟩
      rw [HO'.out] at HO
      clear hl hf
      by_cases h1 : 128 ≤ z
      · have HN : Hid (scan Z 0 (9 - (k + 1)) (k + 1) = rdN Z 0) := by show _ = _; rw [← HK.out, scan_on Z 0 _ k HL.out (by rw [Hz'.out]; omega)]
        go_wp2
        go_round
        case rel => exact ⟨k + 1, by omega, by rw [← HO.out, HO'.out], by go_num, HN⟩
        case measure => simp [intOf]; omega
      · have h1' : z < 128 := by omega
        by_cases h0 : z = 0 ∧ 0 < k
        · have HF : Hid (rdN Z 0 = (0, 0, 51)) := by show _ = _; rw [← HK.out, scan_bad Z 0 _ k HL.out (by rw [Hz'.out]; exact h0.1) h0.2]
          have hk0 := h0.2
          have h0' : (z == 0) = true := by simpa using h0.1
          clear h0
          go_wp2
          go_ret3
          exact ⟨by rw [HF.out]; rfl, rfl⟩
        · have HF : Hid (rdN Z 0 = (val Z 0 (k + 1), (k : Int) + 1, 0)) := by show _ = _; rw [← HK.out, scan_good Z 0 _ k HL.out (by rw [Hz'.out]; exact h1') (by rw [Hz'.out]; exact h0)]
          by_cases hz0 : z = 0
          · have hk0 : ¬ 0 < k := fun h => h0 ⟨hz0, h⟩
            have h0' : (z == 0) = true := by simpa using hz0
            clear h0 hz0
            go_wp2
            go_ret3
            exact ⟨by rw [HF.out, ← HO.out, ← HO'.out]; rfl, rfl⟩
          · have h0' : (z == 0) = false := by simpa using hz0
            clear h0 hz0
            go_wp2
            go_ret3
            exact ⟨by rw [HF.out, ← HO.out, ← HO'.out]; rfl, rfl⟩
    · obtain rfl : k = n := by omega
      by_cases h8 : k < 9
      · have HF : Hid (rdN Z 0 = (0, 0, 50)) := by show _ = _; rw [← HK.out, show 9 - k = (9 - (k + 1)) + 1 by omega, scan_end Z 0 _ k (by have := hS.1; omega)]
        go_wp2
        go_ret3
        exact ⟨by rw [HF.out]; rfl, rfl⟩
      · have HF : Hid (rdN Z 0 = (0, 0, 51)) := by show _ = _; rw [← HK.out, show 9 - k = 0 by omega]; rfl
        go_wp2
        go_ret3
        exact ⟨by rw [HF.out]; rfl, rfl⟩
set_option maxHeartbeats 1600000 in
theorem first_long (ao : Option Addr) (n cap : Nat) (Z : List Int) (w : World) (hS : Src w ao n cap Z) (hcap : n ≤ cap) (h9 : ¬ n ≤ 9) (hn : n ≤ 4611686018427387904) :
    Calls Tryz.prog 79 #[.slice ao n cap] w fun e w' => e = p3 (rdN Z 0) ∧ w' = w := by
  obtain ⟨ad, rfl, _⟩ := cell_at hS 0 (by omega)
  go_enter Tryz.func79, Tryz.ntmps79
  go_wp2
  go_loop [5, 14] (fun s i => ∃ k : Nat, k ≤ 9 ∧ s = .int .i64 (val Z 0 k) ∧ i = .int .i64 k ∧ Hid (scan Z 0 (9 - k) k = rdN Z 0)) (fun _ i => 9 - (intOf i).toNat)
  case atStart => exact ⟨0, Nat.zero_le _, rfl, rfl, rfl⟩
  case round =>
    obtain ⟨k, hk, rfl, rfl, HK⟩ := hrel
    obtain ⟨V, HV⟩ : ∃ V, Hid (val Z 0 k = V) := ⟨_, rfl⟩
    rw [HV.out]
    by_cases hlt : k < 9
    · have hl : ¬ Z.length ≤ 0 + k := by have := hS.1; omega
      have hcell := hS.2.2.1 ad rfl k (by omega)
      have hbd := hS.2.2.2 k
      obtain ⟨z, Hz⟩ : ∃ z, Hid (Z.getD k 0 = z) := ⟨_, rfl⟩
      rw [Hz.out] at hcell hbd
      have HL := hide hl
      have hf : 9 - k = (9 - (k + 1)) + 1 := by omega
      rw [hf] at HK
      have Hz' : Hid (Z.getD (0 + k) 0 = z) := by show _ = _; rw [Nat.zero_add]; exact Hz.out
      have HO := hide (step_or Z k (by omega) z V Hz.out HV.out)
      obtain ⟨O, HO'⟩ : ∃ O, Hid (bits .or .i64 V (wrap64 (z % 128 * 2 ^ (7 * k))) = O) := ⟨_, rfl⟩
      rw [HO'.out] at HO
      clear hl hf
      by_cases h1 : 128 ≤ z
      · have HN : Hid (scan Z 0 (9 - (k + 1)) (k + 1) = rdN Z 0) := by show _ = _; rw [← HK.out, scan_on Z 0 _ k HL.out (by rw [Hz'.out]; omega)]
        go_wp2
        go_round
        case rel => exact ⟨k + 1, by omega, by rw [← HO.out, HO'.out], by go_num, HN⟩
        case measure => simp [intOf]; omega
      · have h1' : z < 128 := by omega
        by_cases h0 : z = 0 ∧ 0 < k
        · have HF : Hid (rdN Z 0 = (0, 0, 51)) := by show _ = _; rw [← HK.out, scan_bad Z 0 _ k HL.out (by rw [Hz'.out]; exact h0.1) h0.2]
          have hk0 := h0.2
          have h0' : (z == 0) = true := by simpa using h0.1
          clear h0
          go_wp2
          go_ret3
          exact ⟨by rw [HF.out]; rfl, rfl⟩
        · have HF : Hid (rdN Z 0 = (val Z 0 (k + 1), (k : Int) + 1, 0)) := by show _ = _; rw [← HK.out, scan_good Z 0 _ k HL.out (by rw [Hz'.out]; exact h1') (by rw [Hz'.out]; exact h0)]
          by_cases hz0 : z = 0
          · have hk0 : ¬ 0 < k := fun h => h0 ⟨hz0, h⟩
            have h0' : (z == 0) = true := by simpa using hz0
            clear h0 hz0
            go_wp2
            go_ret3
            exact ⟨by rw [HF.out, ← HO.out, ← HO'.out]; rfl, rfl⟩
          · have h0' : (z == 0) = false := by simpa using hz0
            clear h0 hz0
            go_wp2
            go_ret3
            exact ⟨by rw [HF.out, ← HO.out, ← HO'.out]; rfl, rfl⟩
    · obtain rfl : k = 9 := by omega
      have HF : Hid (rdN Z 0 = (0, 0, 51)) := by show _ = _; rw [← HK.out]; rfl
      go_wp2
      go_ret3
      exact ⟨by rw [HF.out]; rfl, rfl⟩
theorem first_any (ao : Option Addr) (n cap : Nat) (Z : List Int) (w : World) (hS : Src w ao n cap Z) (hcap : n ≤ cap) (hn : n ≤ 4611686018427387904) :
    Calls Tryz.prog 79 #[.slice ao n cap] w fun e w' => e = p3 (rdN Z 0) ∧ w' = w := by
  by_cases h9 : n ≤ 9
  · exact first_short ao n cap Z w hS hcap h9
  · exact first_long ao n cap Z w hS hcap h9 hn
end Go.Proofs.YtbmjiedpaffifaaGreat.U
namespace Go.Proofs.YtbmjiedpaffifaaGreat.U
open Go.RowKit

theorem drop_getD (Z : List Int) (a t : Nat) : (Z.drop a).getD t 0 = Z.getD (a + t) 0 := by simp [List.getD]
theorem src_nil (w : World) : Src w none 0 0 [] := ⟨rfl, fun _ => ⟨rfl, rfl⟩, fun ad h => (by cases h), fun t => (by simp [List.getD])⟩
theorem Src.from {w : World} {ad : Addr} {n cap : Nat} {Z : List Int} (h : Src w (some ad) n cap Z) (a : Nat) (ha : a ≤ n) (ad' : Addr) (hd : a < n → ad' = ad.add a) (cap' : Nat) : Src w (some ad') (n - a) cap' (Z.drop a) := by
  refine ⟨by simp [h.1], fun h => (by cases h), fun ad1 h1 t ht => ?_, fun t => (by rw [drop_getD]; exact h.2.2.2 _)⟩
  obtain rfl := Option.some.inj h1
  rw [hd (by omega), drop_getD, Addr.add_add]
  exact h.2.2.1 ad rfl (a + t) (by omega)
theorem scan_size (Z : List Int) (a f k : Nat) (h : (scan Z a f k).2.2 = 0) : 0 < (scan Z a f k).2.1 ∧ (a : Int) + (scan Z a f k).2.1 ≤ Z.length := by
  induction f generalizing k with
  | zero => exact absurd (show (51 : Int) = 0 from h) (by decide)
  | succ f ih =>
    unfold scan at h ⊢
    split at h
    · exact absurd h (by decide)
    · rename_i h1
      rw [if_neg h1]
      split at h
      · rename_i h2
        rw [if_pos h2]
        split at h
        · exact absurd h (by decide)
        · rename_i h3; rw [if_neg h3]; constructor
          · show (0 : Int) < (k : Int) + 1; omega
          · show (a : Int) + ((k : Int) + 1) ≤ _; omega
      · rename_i h2
        rw [if_neg h2]
        exact ih _ h
theorem Src.sub {w : World} {ao : Option Addr} {n cap : Nat} {Z : List Int} (h : Src w ao n cap Z) (k : Nat) (hk : k ≤ n) (hcap : n ≤ cap) :
    ∃ ao' cap', ((ao = none ∧ ao' = none ∧ cap' = cap - k) ∨ (∃ ad, ao = some ad ∧ cap = k ∧ ao' = some ad ∧ cap' = 0) ∨ ∃ ad, ao = some ad ∧ ¬ cap = k ∧ ao' = some (ad.add k) ∧ cap' = cap - k) ∧ Src w ao' (n - k) cap' (Z.drop k) ∧ n - k ≤ cap' := by
  cases ao with
  | none =>
    have := h.2.1 rfl
    refine ⟨none, cap - k, Or.inl ⟨rfl, rfl, rfl⟩, ⟨by simp [h.1], fun _ => by omega, fun ad h => (by cases h), fun t => (by rw [drop_getD]; exact h.2.2.2 _)⟩, by omega⟩
  | some ad =>
    by_cases hc : cap = k
    · exact ⟨some ad, 0, Or.inr (Or.inl ⟨ad, rfl, hc, rfl, rfl⟩), h.from k hk ad (fun hl => by omega) _, by omega⟩
    · exact ⟨some (ad.add k), cap - k, Or.inr (Or.inr ⟨ad, rfl, hc, rfl, rfl⟩), h.from k hk _ (fun _ => rfl) _, by omega⟩
end Go.Proofs.YtbmjiedpaffifaaGreat.U
namespace Go.Proofs.YtbmjiedpaffifaaGreat.U
open Go.RowKit
variable {w w' w2 : World} {g : Nat}

abbrev ptr (g : Nat) : Value := .pointer (some ⟨g, 0, none⟩)
/-- a reader: what is left, by which error it gave up, is it over? -/
def Rdr (w : World) (g : Nat) (ro : Option Addr) (rn rc : Nat) (gave : Int) (over : Bool) : Prop := w.heap[g]? = some (.cells #[.slice ro rn rc, .int .i64 gave, .bool over] 69 (0, 0))
variable {ro so : Option Addr} {rn rc sn sc : Nat} {gave : Int} {over : Bool} {Z : List Int}
theorem Rdr.c0 (h : Rdr w g ro rn rc gave over) : w.cell? ⟨g, 0, none⟩ = some (.slice ro rn rc) := by unfold Rdr at h; simp [World.cell?, h]
theorem Rdr.c1 (h : Rdr w g ro rn rc gave over) : w.cell? ⟨g, 1, none⟩ = some (.int .i64 gave) := by unfold Rdr at h; simp [World.cell?, h]
theorem Rdr.c2 (h : Rdr w g ro rn rc gave over) : w.cell? ⟨g, 2, none⟩ = some (.bool over) := by unfold Rdr at h; simp [World.cell?, h]
theorem Rdr.z (h : Rdr w g ro rn rc gave over) (j : Nat) : w.frozen? ⟨g, j, none⟩ = false := by unfold Rdr at h; simp [World.frozen?, h]
theorem Rdr.lt (h : Rdr w g ro rn rc gave over) : g < w.heap.size := (Array.getElem?_eq_some_iff.1 h).1
theorem set_heap (w : World) (g : Nat) (cs : Array Value) (t : TypeId) (f : Nat × Nat) (j : Nat) (v : Value) (h : w.heap[g]? = some (.cells cs t f)) : (w.setCell ⟨g, j, none⟩ v).heap[g]? = some (.cells (cs.setIfInBounds j v) t f) := by
  simp [World.setCell, h, Array.getElem?_modify, Array.setIfInBounds]
theorem set_other (w : World) (g j k : Nat) (v : Value) (hk : k ≠ g) : (w.setCell ⟨g, j, none⟩ v).heap[k]? = w.heap[k]? := by
  unfold World.setCell
  simp only
  split <;> simp [Array.getElem?_modify, Ne.symm hk]
theorem set_size (w : World) (g j : Nat) (v : Value) : (w.setCell ⟨g, j, none⟩ v).heap.size = w.heap.size := by
  unfold World.setCell
  simp only
  split <;> simp
theorem Rdr.set0 (h : Rdr w g ro rn rc gave over) (so : Option Addr) (sn sc : Nat) : Rdr (w.setCell ⟨g, 0, none⟩ (.slice so sn sc)) g so sn sc gave over := set_heap w g _ _ _ 0 _ h
theorem Rdr.set1 (h : Rdr w g ro rn rc gave over) (e : Int) : Rdr (w.setCell ⟨g, 1, none⟩ (.int .i64 e)) g ro rn rc e over := set_heap w g _ _ _ 1 _ h
theorem Rdr.set2 (h : Rdr w g ro rn rc gave over) (b : Bool) : Rdr (w.setCell ⟨g, 2, none⟩ (.bool b)) g ro rn rc gave b := set_heap w g _ _ _ 2 _ h
/-- its block alone may have been written -/
structure Kg (w w' : World) (g : Nat) : Prop where
  os : w'.os = w.os
  tape : w'.tape = w.tape
  output : w'.output = w.output
  size : w.heap.size ≤ w'.heap.size
  block : ∀ k, k < w.heap.size → k ≠ g → w'.heap[k]? = w.heap[k]?
theorem Kg.refl (w : World) (g : Nat) : Kg w w g := ⟨rfl, rfl, rfl, Nat.le_refl _, fun _ _ _ => rfl⟩
theorem Kg.of_below (h : Below w.heap.size w w') : Kg w w' g := ⟨h.os, h.tape, h.output, h.size, fun k hk _ => h.block k hk⟩
theorem Kg.trans (h : Kg w w' g) (k : Kg w' w2 g) : Kg w w2 g := ⟨k.os.trans h.os, k.tape.trans h.tape, k.output.trans h.output, Nat.le_trans h.size k.size, fun i hi hn => (k.block i (Nat.lt_of_lt_of_le hi h.size) hn).trans (h.block i hi hn)⟩
theorem setCell_os (w : World) (a : Addr) (v : Value) : (w.setCell a v).os = w.os := by
  unfold World.setCell
  split <;> rfl
theorem setCell_tape (w : World) (a : Addr) (v : Value) : (w.setCell a v).tape = w.tape := by
  unfold World.setCell
  split <;> rfl
theorem setCell_output (w : World) (a : Addr) (v : Value) : (w.setCell a v).output = w.output := by
  unfold World.setCell
  split <;> rfl
theorem Kg.set (h : Kg w w' g) (j : Nat) (v : Value) : Kg w (w'.setCell ⟨g, j, none⟩ v) g :=
  ⟨(setCell_os _ _ _).trans h.os, (setCell_tape _ _ _).trans h.tape, (setCell_output _ _ _).trans h.output, by rw [set_size]; exact h.size, fun k hk hn => (set_other w' g j k v hn).trans (h.block k hk hn)⟩
theorem Src.kg {m c : Nat} (S : Src w so m c Z) (h : Kg w w' g) (hne : m ≠ 0 → blk so ≠ some g) : Src w' so m c Z :=
  ⟨S.1, S.2.1, fun ad ha t ht => by
    have hc := S.2.2.1 ad ha t ht
    have hl := World.block_lt_of_cell? w _ hc
    rw [World.cell?_of_block (h.block _ hl (fun e => hne (by omega) (by rw [ha, ← e, block_of_add]; rfl)))]
    exact hc, S.2.2.2⟩
/-- a reader that reads on -/
structure RL (w : World) (g : Nat) (ro : Option Addr) (rn rc : Nat) (Z : List Int) : Prop where
  r : Rdr w g ro rn rc 0 false
  s : Src w ro rn rc Z
  cap : rn ≤ rc
  big : rn ≤ 140737488355328
  ne : rn ≠ 0 → blk ro ≠ some g
theorem RL.len (R : RL w g ro rn rc Z) : Z.length = rn := R.s.1
theorem RL.kg_below (R : RL w g ro rn rc Z) (hb : Below w.heap.size w w') : RL w' g ro rn rc Z := ⟨(hb.block g R.r.lt).trans R.r, R.s.below hb, R.cap, R.big, R.ne⟩
/-- the panic by which it gives up -/
abbrev upV (g : Nat) : Value := .iface 96 (.agg #[ptr g])
abbrev ups (g : Nat) : List PanicEntry := [{ v := upV g, recovered := false }]
/-- what is left behind where it gave up -/
def Gave (w w' : World) (g : Nat) (e : Int) : Prop := Rdr w' g none 0 0 e false ∧ Kg w w' g
theorem giveUp_any (R : Rdr w g ro rn rc gave over) (e : Int) : Calls Tryz.prog 61 #[ptr g, .int .i64 e] w fun r w' => r = .panicked (ups g) ∧ Rdr w' g none 0 0 e over ∧ Kg w w' g := by
  have z0 := R.z 0
  have z1 := (R.set0 none 0 0).z 1
  have x0 := R.c0
  have x1 := (R.set0 none 0 0).c1
  have HE := hide ((R.set0 none 0 0).set1 e)
  have HK := hide (((Kg.refl w g).set 0 (.slice none 0 0)).set 1 (.int .i64 e))
  clear R
  go_enter Tryz.func61, Tryz.ntmps61
  go_wp2_with fail
  exact ⟨rfl, rfl, HE.out, HK.out⟩
theorem mayRead_live (R : Rdr w g ro rn rc 0 false) : Calls Tryz.prog 60 #[ptr g] w fun r w' => r = .returned (.bool true) ∧ w' = w := by
  have x1 := R.c1
  have x2 := R.c2
  go_enter Tryz.func60, Tryz.ntmps60
  go_wp2_with fail
  go_ret
  exact ⟨rfl, rfl⟩
theorem mayRead_over (R : Rdr w g ro rn rc gave true) : Calls Tryz.prog 60 #[ptr g] w fun r w' => r = .returned (.bool false) ∧ w' = w := by
  have x1 := R.c1
  have x2 := R.c2
  go_enter Tryz.func60, Tryz.ntmps60
  go_wp2_with fail
  go_ret
  exact ⟨rfl, rfl⟩
end Go.Proofs.YtbmjiedpaffifaaGreat.U
