/- fits and step (of Match): their contracts. -/
import Derived.Test.YtnlklhjmhienkaaGreatDoorMSku
import Derived.Laws.Tables
import Derived.Deep.DeepCutAuto
namespace Go.Proofs.YtnlklhjmhienkaaGreatDoor.M
open Go.RowKit

/-- does a piece of the one byte c fit the pattern's byte b? -/
def fit (b c : UInt8) : Bool := if b = 63 then true else if b = 35 then dig c else if b = 64 then lt c else b == c
theorem eq_bool (b c : UInt8) : ((b.toNat : Int) == (c.toNat : Int)) = (b == c) := by
  rw [Bool.eq_iff_iff]; simp only [beq_iff_eq]
  constructor
  · intro h; exact UInt8.toNat.inj (by omega)
  · intro h; rw [h]
theorem ne_bool {b : UInt8} {c : UInt8} {n : Int} (hn : (c.toNat : Int) = n) (h : ¬ b = c) : ((b.toNat : Int) == n) = false := by
  rw [← hn, eq_bool]; simpa using h

theorem fits_any (b c : UInt8) (w : World) : Calls Tryz.prog 96 #[.int .u8 (b.toNat : Int), .int .u8 (c.toNat : Int)] w fun e w' => e = .returned (.bool (fit b c)) ∧ w' = w := by
  by_cases h1 : b = 63
  · subst h1
    go_enter Tryz.func96, Tryz.ntmps96
    go_wp2
    go_ret
    exact ⟨rfl, rfl⟩
  · have e1 := ne_bool (n := 63) rfl h1
    by_cases h2 : b = 35
    · subst h2
      go_enter Tryz.func96, Tryz.ntmps96
      go_wp2_with (go_at_call 15; refine (isDigit_any c _).mono ?_; rintro e w' ⟨rfl, rfl⟩)
      go_ret
      exact ⟨rfl, rfl⟩
    · have e2 := ne_bool (n := 35) rfl h2
      by_cases h3 : b = 64
      · subst h3
        go_enter Tryz.func96, Tryz.ntmps96
        go_wp2_with (go_at_call 75; refine (isLetter_any c _).mono ?_; rintro e w' ⟨rfl, rfl⟩)
        go_ret
        exact ⟨rfl, rfl⟩
      · have e3 := ne_bool (n := 64) rfl h3
        have HF : Hid (((b.toNat : Int) == (c.toNat : Int)) = fit b c) := by show _ = _; unfold fit; rw [if_neg h1, if_neg h2, if_neg h3, eq_bool]
        clear h1 h2 h3
        go_enter Tryz.func96, Tryz.ntmps96
        go_wp2
        go_ret
        exact ⟨ret_bool HF.out, rfl⟩

/-- an array of 25 truths -/
def arrV (R : Nat → Bool) : Array Value := ((List.range 25).map (fun j => Value.bool (R j))).toArray
theorem arrV_size (R : Nat → Bool) : (arrV R).size = 25 := by simp [arrV]
theorem arrV_at (R : Nat → Bool) (j : Nat) (h : j < 25) : (arrV R)[j]? = some (.bool (R j)) := by simp [arrV, h]
theorem arrV_one (R : Nat → Bool) : (arrV R).all (·.oneCell') = true := by
  rw [Array.all_eq_true_iff_forall_mem]
  intro x hx
  simp only [arrV, List.mem_toArray, List.mem_map] at hx
  obtain ⟨j, _, rfl⟩ := hx
  rfl
theorem arrV_congr {R S : Nat → Bool} (h : ∀ j, j < 25 → R j = S j) : arrV R = arrV S := by
  unfold arrV
  congr 1
  apply List.map_congr_left
  intro j hj
  rw [h j (by simpa using hj)]
/-- the block g holds these 25 truths -/
def B25 (w : World) (g : Nat) (R : Nat → Bool) : Prop := w.heap[g]? = some (.cells (arrV R) 93 (0, 0))
theorem B25.cell {w : World} {g : Nat} {R : Nat → Bool} (h : B25 w g R) (j : Nat) (hj : j < 25) : w.cell? ⟨g, j, none⟩ = some (.bool (R j)) := by
  unfold B25 at h
  rw [cell_of_row w g j _ 93 _ h, arrV_at R j hj]
theorem B25.frozen {w : World} {g : Nat} {R : Nat → Bool} (h : B25 w g R) (j : Nat) : w.frozen? ⟨g, j, none⟩ = false := frozen_of_row w g j _ 93 h
theorem B25.set {w : World} {g : Nat} {R : Nat → Bool} (h : B25 w g R) (j : Nat) (v : Bool) : B25 (w.setCell ⟨g, j, none⟩ (.bool v)) g (fun i => if i = j then v else R i) := by
  unfold B25 at h ⊢
  rw [heap_setCell_same w g j _ 93 _ h]
  congr 2
  apply Array.ext
  · simp [arrV]
  · intro i h1 h2
    simp only [arrV_size] at h2
    rw [Array.getElem_setIfInBounds (by simp [arrV]; exact h2)]
    by_cases hij : j = i
    · subst hij; simp [arrV]
    · rw [if_neg hij]; simp [arrV, Ne.symm hij]
theorem B25.other {w : World} {g : Nat} {R : Nat → Bool} (h : B25 w g R) (a : Addr) (v : Value) (hne : g ≠ a.block) : B25 (w.setCell a v) g R := by
  unfold B25 at h ⊢
  rw [heap_setCell_other w a g v hne]; exact h
theorem B25.congr {w : World} {g : Nat} {R S : Nat → Bool} (h : B25 w g R) (e : ∀ j, j < 25 → R j = S j) : B25 w g S := by
  unfold B25 at h ⊢; rw [← arrV_congr e]; exact h
theorem info65 : (Tryz.prog.info? 93).map (·.size) = some 25 := by kernel_rfl

/-- what a star reaches, of a text of n bytes -/
def starF (R : Nat → Bool) (n : Nat) : Nat → Bool
  | 0 => R 0
  | j + 1 => if j < n then (starF R n j || R (j + 1)) else false
/-- what one byte of the pattern reaches -/
def rstep (b : UInt8) (l : List UInt8) (R : Nat → Bool) : Nat → Bool
  | 0 => if b = 42 then R 0 else false
  | j + 1 => if b = 42 then starF R l.length (j + 1) else if j < l.length then (R j && fit b (l.getD j 0)) else false

/-- what has been reached behind k bytes of the text -/
def upK (P : Nat → Bool) (k : Nat) : Nat → Bool := fun j => if j ≤ k then P j else false
structure S3 (N : Nat) (w wr : World) (R P : Nat → Bool) : Prop where
  r : B25 wr N R
  o : B25 wr (N + 1) (fun _ => false)
  n : B25 wr (N + 1 + 1) P
  below : Below N w wr
theorem S3.set {N : Nat} {w wr : World} {R P : Nat → Bool} (S : S3 N w wr R P) (j : Nat) (v : Bool) (Q : Nat → Bool) (hQ : ∀ i, i < 25 → (if i = j then v else P i) = Q i) : S3 N w (wr.setCell ⟨N + 1 + 1, j, none⟩ (.bool v)) R Q :=
  ⟨S.r.other _ _ (by simp; omega), S.o.other _ _ (by simp), (S.n.set j v).congr hQ, S.below.setCell (by simp; omega) _⟩
theorem upK_succ (P : Nat → Bool) (k i : Nat) : (if i = k + 1 then P (k + 1) else upK P k i) = upK P (k + 1) i := by
  unfold upK
  by_cases h : i = k + 1
  · subst h; rw [if_pos rfl, if_pos (Nat.le_refl _)]
  · rw [if_neg h]
    by_cases h2 : i ≤ k
    · rw [if_pos h2, if_pos (by omega)]
    · rw [if_neg h2, if_neg (by omega)]
theorem starF_succ (R : Nat → Bool) (n j : Nat) : starF R n (j + 1) = if j < n then (starF R n j || R (j + 1)) else false := rfl
theorem rstep_star (l : List UInt8) (R : Nat → Bool) (j : Nat) : rstep 42 l R j = starF R l.length j := by
  cases j with
  | zero => simp [rstep, starF]
  | succ j => simp [rstep]
theorem rstep_plain (b : UInt8) (hb : ¬ b = 42) (l : List UInt8) (R : Nat → Bool) (j : Nat) : rstep b l R (j + 1) = if j < l.length then (R j && fit b (l.getD j 0)) else false := by
  show (if b = 42 then _ else _) = _
  rw [if_neg hb]
theorem rstep_plain0 (b : UInt8) (hb : ¬ b = 42) (l : List UInt8) (R : Nat → Bool) : rstep b l R 0 = false := by
  show (if b = 42 then _ else _) = _
  rw [if_neg hb]
theorem rstep_past (b : UInt8) (l : List UInt8) (R : Nat → Bool) (j : Nat) (h : l.length < j) : rstep b l R j = false := by
  cases j with
  | zero => omega
  | succ j =>
    by_cases hb : b = 42
    · subst hb; rw [rstep_star, starF_succ, if_neg (by omega)]
    · rw [rstep_plain b hb, if_neg (by omega)]
theorem S3_start (w : World) (R P : Nat → Bool) (C0 C1 : Array Value) (h0 : C0 = arrV (fun _ => false)) (h1 : C1 = arrV P) :
    S3 w.heap.size w (((w.alloc (.cells (arrV R) 93)).alloc (.cells C0 93)).alloc (.cells C1 93)) R P := by
  subst h0 h1
  refine ⟨?_, ?_, ?_, (((Below.refl _ _).alloc (Nat.le_refl _) _).alloc (by simp) _).alloc (by simp; omega) _⟩
  · unfold B25; rw [Below.heap_alloc _ _ _ (by simp; omega), Below.heap_alloc _ _ _ (by simp), heap_alloc_new]
  · unfold B25
    rw [Below.heap_alloc _ _ _ (by simp)]
    have := heap_alloc_new (w.alloc (.cells (arrV R) 93)) (.cells (arrV (fun _ => false)) 93)
    rwa [World.size_alloc] at this
  · unfold B25
    have := heap_alloc_new ((w.alloc (.cells (arrV R) 93)).alloc (.cells (arrV (fun _ => false)) 93)) (.cells (arrV P) 93)
    rwa [World.size_alloc, World.size_alloc] at this
theorem upK_all (b : UInt8) (l : List UInt8) (R : Nat → Bool) (i : Nat) : upK (rstep b l R) l.length i = rstep b l R i := by
  unfold upK
  by_cases h : i ≤ l.length
  · rw [if_pos h]
  · rw [if_neg h, rstep_past b l R i (by omega)]

set_option maxRecDepth 100000 in
set_option maxHeartbeats 4000000 in
theorem step_star (R : Nat → Bool) (s : ByteArray) (w : World) (hs : s.size ≤ 24) :
    Calls Tryz.prog 83 #[.agg (arrV R), .int .u8 42, .string s] w fun e w' => e = .returned (.agg (arrV (rstep 42 s.data.toList R))) ∧ Below w.heap.size w w' := by
  have h0 := arrV_at R 0 (by omega)
  go_enter Tryz.func83, Tryz.ntmps83
  go_wp2
  go_loopw [16] (fun i wr => ∃ k : Nat, k ≤ s.size ∧ i = .int .i64 k ∧ S3 w.heap.size w wr R (upK (rstep 42 s.data.toList R) k)) (fun i _ => s.size - (intOf i).toNat)
  case atStart =>
    refine ⟨0, Nat.zero_le _, rfl, ?_⟩
    have S := S3_start w R (fun j => if j = 0 then R 0 else false) _ _ rfl rfl
    refine ⟨S.r, S.o, S.n.congr (fun j _ => ?_), S.below⟩
    unfold upK
    cases j with
    | zero => rw [if_pos rfl, if_pos (Nat.le_refl _), rstep_star]; rfl
    | succ j => rw [if_neg (by omega), if_neg (by omega)]
  case round =>
    obtain ⟨k, hk, rfl, S⟩ := hrel
    by_cases hlt : k < s.size
    · have c1 := S.n.cell k (by omega)
      have c2 := S.r.cell (k + 1) (by omega)
      have c3 := S.n.cell (k + 1) (by omega)
      have f3 := S.n.frozen (k + 1)
      have eP : upK (rstep 42 s.data.toList R) k k = starF R s.size k := by unfold upK; rw [if_pos (Nat.le_refl _), rstep_star, len_at]
      rw [eP] at c1
      obtain ⟨x, hx⟩ : ∃ x, starF R s.size k = x := ⟨_, rfl⟩
      obtain ⟨y, hy⟩ : ∃ y, R (k + 1) = y := ⟨_, rfl⟩
      rw [hx] at c1
      rw [hy] at c2
      have HV : Hid (rstep 42 s.data.toList R (k + 1) = (x || y)) := by show _ = _; rw [rstep_star, starF_succ, len_at, if_pos hlt, hx, hy]
      clear eP hx hy
      cases x with
      | true =>
        go_wp2
        go_roundw
        case rel => exact ⟨k + 1, by omega, by go_num, S.set (k + 1) true _ (fun i _ => by have := upK_succ (rstep 42 s.data.toList R) k i; rw [HV.out] at this; exact this)⟩
        case measure => simp [intOf]; omega
      | false =>
        go_wp2
        go_roundw
        case rel => exact ⟨k + 1, by omega, by go_num, S.set (k + 1) y _ (fun i _ => by have := upK_succ (rstep 42 s.data.toList R) k i; rw [HV.out] at this; exact this)⟩
        case measure => simp [intOf]; omega
    · obtain rfl : k = s.size := by omega
      have HX : Hid (∀ j, j < 25 → upK (rstep 42 s.data.toList R) s.size j = rstep 42 s.data.toList R j) := fun j _ => by
        have := upK_all 42 s.data.toList R j; rwa [len_at] at this
      obtain ⟨P, hP⟩ : ∃ P, upK (rstep 42 s.data.toList R) s.size = P := ⟨_, rfl⟩
      rw [hP] at S HX
      clear hP
      go_wp2_with (first | (refine wpList_load_row rfl 93 (.tmp 7) rfl (w.heap.size + 1 + 1) rfl 93 (arrV P) (0, 0) _ S.n Tryz.underlying93 rfl (by rw [info65, arrV_size]) ?_) | (refine wpList_store_row rfl 93 (.tmp 6) (.tmp 47) rfl (w.heap.size + 1) (arrV P) rfl rfl 93 _ S.o (by rw [info65, arrV_size]) (by rw [arrV_size, arrV_size]) (arrV_one P) ?_))
      refine bodyPost_ret (v := .agg (arrV P)) (results_cell_row Tryz.results83 _ _ (w.heap.size + 1) 93 (arrV P) (0, 0) _ rfl (setRow_heap wr (w.heap.size + 1) _ (arrV P) 93 _ S.o) Tryz.underlying93 rfl (by rw [info65, arrV_size])) rfl ⟨by rw [arrV_congr HX.out], ?_⟩
      exact S.below.trans ⟨rfl, rfl, rfl, by simp, fun k hk => setRow_other wr (w.heap.size + 1) k _ (by omega)⟩

set_option maxRecDepth 100000 in
set_option maxHeartbeats 4000000 in
theorem step_plain (R : Nat → Bool) (b : UInt8) (hb : ¬ b = 42) (s : ByteArray) (w : World) (hs : s.size ≤ 24) :
    Calls Tryz.prog 83 #[.agg (arrV R), .int .u8 (b.toNat : Int), .string s] w fun e w' => e = .returned (.agg (arrV (rstep b s.data.toList R))) ∧ Below w.heap.size w w' := by
  have e42 := ne_bool (n := 42) rfl hb
  have HB := hide hb
  clear hb
  go_enter Tryz.func83, Tryz.ntmps83
  go_wp2
  go_loopw [16] (fun i wr => ∃ k : Nat, k ≤ s.size ∧ i = .int .i64 k ∧ S3 w.heap.size w wr R (upK (rstep b s.data.toList R) k)) (fun i _ => s.size - (intOf i).toNat)
  case atStart =>
    refine ⟨0, Nat.zero_le _, rfl, ?_⟩
    have S := S3_start w R (fun _ => false) _ _ rfl rfl
    refine ⟨S.r, S.o, S.n.congr (fun j _ => ?_), S.below⟩
    unfold upK
    cases j with
    | zero => rw [if_pos (Nat.le_refl _), rstep_plain0 b HB.out]
    | succ j => rw [if_neg (by omega)]
  case round =>
    obtain ⟨k, hk, rfl, S⟩ := hrel
    by_cases hlt : k < s.size
    · have c2 := S.r.cell k (by omega)
      have c3 := S.n.cell (k + 1) (by omega)
      have f3 := S.n.frozen (k + 1)
      obtain ⟨x, hx⟩ : ∃ x, R k = x := ⟨_, rfl⟩
      rw [hx] at c2
      have HV : Hid (rstep b s.data.toList R (k + 1) = (x && fit b s[k])) := by show _ = _; rw [rstep_plain b HB.out, len_at, if_pos hlt, hx, getD_at s k hlt]
      clear hx
      cases x with
      | true =>
        go_wp2_with (go_at_call 96; refine (fits_any b s[k] _).mono ?_; rintro e w' ⟨rfl, rfl⟩)
        go_roundw
        case rel => exact ⟨k + 1, by omega, by go_num, S.set (k + 1) (fit b s[k]) _ (fun i _ => by have := upK_succ (rstep b s.data.toList R) k i; rw [HV.out, Bool.true_and] at this; exact this)⟩
        case measure => simp [intOf]; omega
      | false =>
        go_wp2
        go_roundw
        case rel => exact ⟨k + 1, by omega, by go_num, S.set (k + 1) false _ (fun i _ => by have := upK_succ (rstep b s.data.toList R) k i; rw [HV.out, Bool.false_and] at this; exact this)⟩
        case measure => simp [intOf]; omega
    · obtain rfl : k = s.size := by omega
      have HX : Hid (∀ j, j < 25 → upK (rstep b s.data.toList R) s.size j = rstep b s.data.toList R j) := fun j _ => by
        have := upK_all b s.data.toList R j; rwa [len_at] at this
      obtain ⟨P, hP⟩ : ∃ P, upK (rstep b s.data.toList R) s.size = P := ⟨_, rfl⟩
      rw [hP] at S HX
      clear hP
      go_wp2_with (first | (refine wpList_load_row rfl 93 (.tmp 7) rfl (w.heap.size + 1 + 1) rfl 93 (arrV P) (0, 0) _ S.n Tryz.underlying93 rfl (by rw [info65, arrV_size]) ?_) | (refine wpList_store_row rfl 93 (.tmp 6) (.tmp 47) rfl (w.heap.size + 1) (arrV P) rfl rfl 93 _ S.o (by rw [info65, arrV_size]) (by rw [arrV_size, arrV_size]) (arrV_one P) ?_))
      refine bodyPost_ret (v := .agg (arrV P)) (results_cell_row Tryz.results83 _ _ (w.heap.size + 1) 93 (arrV P) (0, 0) _ rfl (setRow_heap wr (w.heap.size + 1) _ (arrV P) 93 _ S.o) Tryz.underlying93 rfl (by rw [info65, arrV_size])) rfl ⟨by rw [arrV_congr HX.out], ?_⟩
      exact S.below.trans ⟨rfl, rfl, rfl, by simp, fun k hk => setRow_other wr (w.heap.size + 1) k _ (by omega)⟩

theorem step_any (R : Nat → Bool) (b : UInt8) (s : ByteArray) (w : World) (hs : s.size ≤ 24) :
    Calls Tryz.prog 83 #[.agg (arrV R), .int .u8 (b.toNat : Int), .string s] w fun e w' => e = .returned (.agg (arrV (rstep b s.data.toList R))) ∧ Below w.heap.size w w' := by
  by_cases hb : b = 42
  · subst hb; exact step_star R s w hs
  · exact step_plain R b hb s w hs
end Go.Proofs.YtnlklhjmhienkaaGreatDoor.M
