/- RLd PCl PNo -/
import Derived.Test.YtnghfnhpjdafmaaSl18
import Derived.Test.YtnghfnhpjdafmaaSl11
namespace Go.Proofs.Ytnghfnhpjdafmaa
open Go.RowKit
attribute [local go_sem ↓] ldR_eq stR_eq
attribute [local go_sem] zero_RC cells_RV RC_size fold_RC

def LeadOf (A : List Rn) (k : Int) (L : List Rn) : Prop := form 1 L ∧ 0 ≤ k ∧ k ≤ 1000000000 ∧ (∀ X, NormOf A X → k + sz L = sz X) ∧ (∀ r L', L = r :: L' → k + 2 ≤ r.lo) ∧ ∃ X, NormOf A X ∧ ((k = 0 ∧ X = L ∧ ∀ r X', X = r :: X' → r.lo ≠ 1) ∨ X = ⟨1, k⟩ :: L)
def GivesL (w w' : World) (e : Ending) (A : List Rn) : Prop := ∃ k a1 n1 c1 L, e = .returned (.tuple #[.int .i64 k, .slice a1 n1 c1]) ∧ RSrc w' a1 n1 c1 L ∧ LeadOf A k L ∧ Below w.heap.size w w' ∧ ∀ ad, a1 = some ad → w.heap.size ≤ ad.block
set_option maxRecDepth 100000 in
set_option maxHeartbeats 1000000 in
theorem lead_any (ao : Option Addr) (n cap : Nat) (A : List Rn) (w : World) (hS : RSrc w ao n cap A) :
    Calls Try.prog 94 #[.slice ao n cap] w fun e w' => GivesL w w' e A := by
  have HS := hide hS
  clear hS
  go_enter Try.func94, Try.ntmps94
  go_wp2_with fail
  refine (norm_new ao n cap A _ HS.out).mono ?_
  rintro e w1 ⟨a1, n1, c1, X, rfl, S1, b1, f1', p1⟩
  have HFR := hide f1'
  have HS1 := hide S1
  have HP1 := hide p1
  have HB1 := hide b1
  have hn := S1.big
  have hc := S1.cap
  have hrm := S1.room
  unfold maxLen at hrm
  have HL : Hid (X.length = n1) := S1.len
  clear S1 b1 p1 f1'
  cases X with
  | nil =>
    obtain rfl : n1 = 0 := HL.out.symm
    have HF : Hid (LeadOf A 0 []) := ⟨trivial, by omega, by omega, fun Y hY => by rw [hY.unique HP1.out]; simp, (fun r L' e => by cases e), ⟨[], HP1.out, Or.inl ⟨rfl, rfl, (fun r X' e => by cases e)⟩⟩⟩
    go_wp2_with fail
    go_ret2
    exact (⟨_, _, _, _, _, rfl, HS1.out, HF.out, HB1.out, HFR.out⟩ : GivesL _ _ _ _)
  | cons r X =>
    have hn1 : 0 < n1 := by rw [← HL.out]; simp
    obtain ⟨ad, rfl, _⟩ := HS1.out.at 0 (by omega)
    obtain ⟨b, o, rfl⟩ := HS1.out.spot (by omega)
    obtain ⟨q0, q1⟩ := HS1.out.nums 0 (by omega)
    simp [List.getD] at q0 q1
    have f1 := HP1.out.1.1
    have f2 := HP1.out.1.2.1
    have f3 := HP1.out.1.2.2.1
    have d0 : ((n1 : Int) == 0) = false := by simp; omega
    have HT := hide HS1.out.tail'
    by_cases h1 : r.lo = 1
    · have d1 : (r.lo != 1) = false := by simpa using h1
      have HF : Hid (LeadOf A r.hi X) := ⟨form_mono (by omega) HP1.out.1.2.2.2, by omega, by omega, fun Y hY => by rw [hY.unique HP1.out, sz_cons]; omega, fun s L' e => by
        have := HP1.out.1.2.2.2
        rw [e] at this
        exact this.1, ⟨_, HP1.out, Or.inr (by obtain ⟨r1, r2⟩ := r; simp only at h1; subst h1; rfl)⟩⟩
      clear h1
      by_cases hcc : c1 = 1
      · subst hcc
        obtain rfl : n1 = 1 := by omega
        have HT1 : RSrc w1 (some ⟨b, o, none⟩) 0 0 X := HT.out
        replace HT := hide HT1
        clear HT1
        have k1 := cell_regrown q1
        go_wp2_with fail
        refine wp_region_quiet_below (by kernel_rfl) (by kernel_rfl) ?_
        repeat (with_reducible (refine wpQuiet_step ?_); intro K hK; go_simp; (try rw [if_neg (by unfold undef; simp)]); first | (with_reducible (refine hK _ ?_); clear hK K) | (apply Exists.intro; refine ⟨fun _ => ?_, hK _ ?_⟩; (fail); clear hK K))
        with_reducible (refine wpQuiet_nil ?_)
        intro w5 hw'
        obtain ⟨⟨dq, osq⟩, hw''⟩ := hw'
        have b5 : Below w1.heap.size w1 w5 := by rw [hw'']; exact below_regrown w1 dq osq
        clear hw'' dq osq
        have HT5 := hide (HT.out.below b5)
        have HB5 := hide (HB1.out.trans (b5.mono HB1.out.size))
        have HN : Hid (GivesL w w5 (.returned (.tuple #[.int .i64 r.hi, .slice (some ⟨b, o, none⟩) 0 0])) A) := ⟨_, _, _, _, X, rfl, HT5.out, HF.out, HB5.out, (fun ad h => by obtain rfl := Option.some.inj h; exact HFR.out ⟨b, o, none⟩ rfl)⟩
        clear b5 k1
        go_wp2_with fail
        go_ret2
        exact HN.out
      · have HT1 := HT.out
        rw [if_neg hcc] at HT1
        replace HT := hide HT1
        clear HT1
        have k1 := cell_regrown q1
        have hni : (1 : Int) ≤ (n1 : Int) := by omega
        go_wp2_with fail
        refine wp_region_quiet_below (by kernel_rfl) (by kernel_rfl) ?_
        repeat (with_reducible (refine wpQuiet_step ?_); intro K hK; go_simp; (try rw [if_neg (by unfold undef; simp)]); first | (with_reducible (refine hK _ ?_); clear hK K) | (apply Exists.intro; refine ⟨fun _ => ?_, hK _ ?_⟩; (fail); clear hK K))
        with_reducible (refine wpQuiet_nil ?_)
        intro w5 hw'
        obtain ⟨⟨dq, osq⟩, hw''⟩ := hw'
        have b5 : Below w1.heap.size w1 w5 := by rw [hw'']; exact below_regrown w1 dq osq
        clear hw'' dq osq
        have HT5 := hide (HT.out.below b5)
        have HB5 := hide (HB1.out.trans (b5.mono HB1.out.size))
        have HN : Hid (GivesL w w5 (.returned (.tuple #[.int .i64 r.hi, .slice (some ⟨b, o + 2, none⟩) (n1 - 1) (c1 - 1)])) A) := ⟨_, _, _, _, X, rfl, HT5.out, HF.out, HB5.out, (fun ad h => by obtain rfl := Option.some.inj h; exact HFR.out ⟨b, o, none⟩ rfl)⟩
        clear b5 k1
        go_wp2_with fail
        go_ret2
        exact HN.out
    · have d1 : (r.lo != 1) = true := by simpa using h1
      have HF : Hid (LeadOf A 0 (r :: X)) := ⟨HP1.out.1, by omega, by omega, fun Y hY => by rw [hY.unique HP1.out]; simp, fun s L' e => by
        injection e with e1 e2
        subst e1
        omega, ⟨_, HP1.out, Or.inl ⟨rfl, rfl, fun s X' e => by injection e with e1 e2; subst e1; exact h1⟩⟩⟩
      clear h1
      go_wp2_with fail
      go_ret2
      exact (⟨_, _, _, _, _, rfl, HS1.out, HF.out, HB1.out, HFR.out⟩ : GivesL _ _ _ _)
end Go.Proofs.Ytnghfnhpjdafmaa
namespace Go.Proofs.Ytnghfnhpjdafmaa
open Go.RowKit

def leadOf : List Rn → Int
  | [] => 0
  | r :: _ => if r.lo = 1 then r.hi else 0
def restOf : List Rn → List Rn
  | [] => []
  | r :: t => if r.lo = 1 then t else r :: t
def tag (r : Nat) (L : List Rn) : List Sn := L.map (fun x => ⟨(r : Int), x.lo, x.hi⟩)
def cloudN (N : Nat → List Rn) : Nat → List Sn
  | 0 => []
  | k + 1 => cloudN N k ++ tag k (restOf (N k))
/-- the past whose sets have these forms -/
def canonP (N : Nat → List Rn) : Pst := ⟨V.short (fun r => leadOf (N r)), cloudN N 16⟩
theorem lead_rest {A X : List Rn} {k : Int} {L : List Rn} (h : LeadOf A k L) (hX : NormOf A X) : k = leadOf X ∧ L = restOf X := by
  obtain ⟨_, _, _, _, _, Y, hY, h | h⟩ := h
  · obtain rfl := hX.unique hY
    obtain ⟨rfl, rfl, hr⟩ := h
    cases X with
    | nil => exact ⟨rfl, rfl⟩
    | cons r t =>
      have := hr r t rfl
      simp [leadOf, restOf, this]
  · obtain rfl := hX.unique hY
    subst h
    simp [leadOf, restOf]
theorem LeadOf.norm {A : List Rn} {k : Int} {L : List Rn} (h : LeadOf A k L) : ∃ X, NormOf A X ∧ k = leadOf X ∧ L = restOf X := by
  obtain ⟨X, hX, _⟩ := h.2.2.2.2.2
  exact ⟨X, hX, lead_rest h hX⟩
theorem leadOf_bd {X : List Rn} (h : form 1 X) : 0 ≤ leadOf X ∧ leadOf X ≤ 1000000000 := by
  cases X with
  | nil => simp [leadOf]
  | cons r t =>
    have h1 := h.1
    have h2 := h.2.1
    have h3 := h.2.2.1
    simp only [leadOf]
    split <;> omega
theorem restOf_len (X : List Rn) : (restOf X).length ≤ X.length := by
  cases X with
  | nil => simp [restOf]
  | cons r t => simp only [restOf]; split <;> simp
theorem tag_length (r : Nat) (L : List Rn) : (tag r L).length = L.length := by simp [tag]
theorem cloudN_congr {N N' : Nat → List Rn} : ∀ k, (∀ r, r < k → N r = N' r) → cloudN N k = cloudN N' k
  | 0, _ => rfl
  | k + 1, h => by rw [cloudN, cloudN, cloudN_congr k (fun r hr => h r (by omega)), h k (by omega)]
theorem cloudN_len {N : Nat → List Rn} : ∀ k, (∀ r, r < k → form 1 (N r)) → (cloudN N k).length ≤ k * 500000001
  | 0, _ => by simp [cloudN]
  | k + 1, h => by
    have h1 := cloudN_len k (fun r hr => h r (by omega))
    have h2 := restOf_len (N k)
    have h3 := form_small (Int.le_refl _) (h k (by omega))
    rw [cloudN, List.length_append, tag_length]
    omega
theorem topN_congr {f g : Nat → Int} : ∀ k, (∀ r, r < k → f r = g r) → V.topN f k = V.topN g k
  | 0, _ => rfl
  | k + 1, h => by rw [V.topN, V.topN, topN_congr k (fun r hr => h r (by omega)), h k (by omega)]
theorem short_congr {f g : Nat → Int} (h : ∀ r, r < 16 → f r = g r) : V.short f = V.short g := by
  have ht : V.top f = V.top g := topN_congr 16 h
  have h16 := V.top_le g
  unfold V.short
  rw [ht]
  apply List.map_congr_left
  intro r hr
  exact h r (by have := List.mem_range.1 hr; omega)
theorem canonP_congr {N N' : Nat → List Rn} (h : ∀ r, r < 16 → N r = N' r) : canonP N = canonP N' := by
  unfold canonP
  rw [short_congr (fun r hr => by rw [h r hr]), cloudN_congr 16 h]
/-- the past is the form of these sets -/
def CanonOf (G : Nat → List Rn) (P : Pst) : Prop := ∃ N, (∀ r, r < 16 → NormOf (G r) (N r)) ∧ P = canonP N
theorem CanonOf.unique {G G' : Nat → List Rn} {P P' : Pst} (h : CanonOf G P) (h' : CanonOf G' P') (e : ∀ r, r < 16 → ∀ n, mem (G r) n ↔ mem (G' r) n) : P = P' := by
  obtain ⟨N, hN, rfl⟩ := h
  obtain ⟨N', hN', rfl⟩ := h'
  exact canonP_congr fun r hr => form_unique (Int.le_refl _) (hN r hr).1 (hN' r hr).1 (fun n => ((hN r hr).2 n).trans ((e r hr n).trans ((hN' r hr).2 n).symm))
/-- what the form's vector and cloud say -/
theorem at_short {f : Nat → Int} (hf : ∀ r, r < 16 → 0 ≤ f r ∧ f r ≤ 1000000000) (r : Nat) (hr : r < 16) : V.at' (V.short f) r = f r := by
  unfold V.at'
  rw [if_pos hr]
  have key : ∀ k, V.topN f k ≤ r → r < k → f r = 0 := by
    intro k
    induction k with
    | zero => intro _ h; omega
    | succ k ih =>
      intro h1 h2
      rw [V.topN] at h1
      by_cases h0 : f k = 0
      · rw [if_pos h0] at h1
        by_cases e : r = k
        · rw [e]; exact h0
        · exact ih h1 (by omega)
      · rw [if_neg h0] at h1; omega
  have hb := hf r hr
  by_cases h : r < V.top f
  · have : (V.short f).getD r 0 = f r := by simp [V.short, List.getD, h]
    rw [this]
    unfold V.clamp
    rw [if_neg (by omega), if_neg (by omega)]
  · have h0 : f r = 0 := key 16 (by unfold V.top at h; omega) hr
    have : (V.short f).getD r 0 = 0 := by
      rw [List.getD, List.getElem?_eq_none (by rw [V.short_length]; omega)]; rfl
    rw [this, h0]
    rfl
theorem cloudPart_append (L M : List Sn) (r : Nat) : cloudPart (L ++ M) r = cloudPart L r ++ cloudPart M r := by simp [cloudPart]
theorem cloudPart_tag (q r : Nat) (L : List Rn) : cloudPart (tag q L) r = if q = r then L else [] := by
  induction L with
  | nil => simp [cloudPart, tag]
  | cons x L ih =>
    have e : tag q (x :: L) = [(⟨(q : Int), x.lo, x.hi⟩ : Sn)] ++ tag q L := rfl
    rw [e, cloudPart_append, ih]
    by_cases h : q = r
    · subst h; simp [cloudPart]
    · have : ¬ (q : Int) = (r : Int) := by omega
      simp [cloudPart, h, this]
theorem cloudPart_N (N : Nat → List Rn) (r : Nat) : ∀ k, cloudPart (cloudN N k) r = if r < k then restOf (N r) else []
  | 0 => by simp [cloudN, cloudPart]
  | k + 1 => by
    rw [cloudN, cloudPart_append, cloudPart_N N r k, cloudPart_tag]
    by_cases h : k = r
    · subst h; simp
    · by_cases h' : r < k
      · simp [h, h', show r < k + 1 by omega]
      · simp [h, h', show ¬ r < k + 1 by omega]
theorem lead_rest_mem {X : List Rn} (h : form 1 X) (n : Int) : mem (vecPart (leadOf X) ++ restOf X) n ↔ mem X n := by
  cases X with
  | nil => simp [leadOf, restOf, vecPart]
  | cons r t =>
    have h1 := h.1
    have h2 := h.2.1
    have h3 := h.2.2.1
    by_cases e : r.lo = 1
    · have hp : 0 < r.hi := by omega
      have hr : (⟨1, r.hi⟩ : Rn) = r := by cases r; simp_all
      simp [leadOf, restOf, e, vecPart, hp, hr]
    · simp [leadOf, restOf, e, vecPart]
/-- the form's own sets are those it was made of -/
theorem canon_mem {G : Nat → List Rn} {P : Pst} (h : CanonOf G P) (r : Nat) (hr : r < 16) (n : Int) : mem (runsAt P r) n ↔ mem (G r) n := by
  obtain ⟨N, hN, rfl⟩ := h
  have hf : ∀ r, r < 16 → 0 ≤ leadOf (N r) ∧ leadOf (N r) ≤ 1000000000 := fun r hr => leadOf_bd (hN r hr).1
  unfold runsAt canonP
  dsimp only
  rw [at_short hf r hr, cloudPart_N, if_pos hr, lead_rest_mem (hN r hr).1]
  exact (hN r hr).2 n
theorem canon_len {G : Nat → List Rn} {P : Pst} (h : CanonOf G P) : P.cloud.length ≤ 8000000016 ∧ P.vec.length ≤ 16 := by
  obtain ⟨N, hN, rfl⟩ := h
  have := cloudN_len (N := N) 16 (fun r hr => (hN r hr).1)
  refine ⟨by show (cloudN N 16).length ≤ _; omega, by show (V.short _).length ≤ _; rw [V.short_length]; exact V.top_le _⟩
/-- its lists lie in blocks from n on -/
def PNew (n : Nat) (p : Pv) : Prop := (∀ ad, p.vo = some ad → n ≤ ad.block) ∧ ∀ ad, p.co = some ad → n ≤ ad.block
theorem PNew.mono {n m : Nat} {p : Pv} (h : PNew n p) (hm : m ≤ n) : PNew m p := ⟨fun ad e => Nat.le_trans hm (h.1 ad e), fun ad e => Nat.le_trans hm (h.2 ad e)⟩
/-- a past is handed back, in new memory; old memory stands -/
def GivesP (w w' : World) (e : Ending) (Q : Pst → Prop) : Prop := ∃ p : Pv, e = .returned (PV p) ∧ PSrc w' p ∧ PNew w.heap.size p ∧ Below w.heap.size w w' ∧ Q p.P
theorem psrc_off {w w' : World} {p : Pv} (h : PSrc w p) (hv : ∀ ad, p.vo = some ad → w'.heap[ad.block]? = w.heap[ad.block]?) (hc : ∀ ad, p.co = some ad → w'.heap[ad.block]? = w.heap[ad.block]?) : PSrc w' p := ⟨h.vec.off hv, h.cloud.off hc, h.big⟩
/-- the result's variable is filled -/
theorem past_end {w W : World} {g : Nat} {p : Pv} (hP : PBox W g pv0) (hS : PSrc W p) (hn : PNew (g + 1) p) (hb : Below w.heap.size w W) (hg : w.heap.size ≤ g) : (stP (.pointer (some ⟨g, 0, none⟩)) (PV p)).run Try.prog W = .ok () (W.setRow g (PC p)) ∧ PBox (W.setRow g (PC p)) g p ∧ PSrc (W.setRow g (PC p)) p ∧ PNew w.heap.size p ∧ Below w.heap.size w (W.setRow g (PC p)) := by
  refine ⟨run_stP hP, setRow_heap _ _ _ _ _ _ hP, psrc_off hS (fun ad h => setRow_other _ _ _ _ (fun e => ?_)) (fun ad h => setRow_other _ _ _ _ (fun e => ?_)), hn.mono (by omega), below_setRow hb hg⟩
  · have := hn.1 ad h; omega
  · have := hn.2 ad h; omega
theorem CanonOf.congr {G G' : Nat → List Rn} {P : Pst} (h : CanonOf G P) (e : ∀ r, r < 16 → G r = G' r) : CanonOf G' P := by
  obtain ⟨N, hN, rfl⟩ := h
  exact ⟨N, fun r hr => by rw [← e r hr]; exact hN r hr, rfl⟩
end Go.Proofs.Ytnghfnhpjdafmaa
namespace Go.Proofs.Ytnghfnhpjdafmaa
open Go.RowKit

theorem isR_nat {k : Nat} (h : k < 16) : V.isR (k : Int) = true := by simp [V.isR]; omega
theorem atI_nat (Z : List Int) {k : Nat} (h : k < 16) : V.atI Z (k : Int) = V.at' Z k := by unfold V.atI; rw [if_pos (isR_nat h), Int.toNat_natCast]
theorem chain_tag (Z : List Int) (k : Nat) (hk : k < 16) : ∀ (L : List Rn) (a : Sn) (l : Int), a.rep ≤ (k : Int) → V.at' Z k + 2 ≤ l → (a.rep = (k : Int) → a.hi + 2 ≤ l) → form l L → chain Z a (tag k L)
  | [], _, _, _, _, _, _ => trivial
  | r :: t, a, l, ha, hl, hg, h => by
    have h1 := h.1
    have h2 := h.2.1
    have h3 := h.2.2.1
    refine ⟨⟨isR_nat hk, ha, ?_, fun e => ?_, h2, h3⟩, chain_tag Z k hk t _ (r.hi + 2) (Int.le_refl _) ?_ (fun _ => Int.le_refl _) h.2.2.2⟩
    · show V.atI Z (k : Int) + 2 ≤ r.lo
      rw [atI_nat Z hk]; omega
    · have := hg e.symm
      show a.hi + 2 ≤ r.lo
      omega
    · omega
theorem last_tag (a : Sn) (k : Nat) : ∀ (L : List Rn), L = [] ∨ (lastS a (tag k L)).rep = (k : Int)
  | [] => Or.inl rfl
  | r :: t => by
    right
    rcases last_tag ⟨(k : Int), r.lo, r.hi⟩ k t with h | h
    · subst h; rfl
    · exact h
theorem form_rest {X : List Rn} (h : form 1 X) : form (leadOf X + 2) (restOf X) := by
  cases X with
  | nil => trivial
  | cons r t =>
    by_cases e : r.lo = 1
    · simp only [leadOf, restOf, if_pos e]
      exact h.2.2.2
    · simp only [leadOf, restOf, if_neg e]
      have := h.1
      exact ⟨by omega, h.2⟩
theorem chain_cloudN {N : Nat → List Rn} {Z : List Int} (hN : ∀ r, r < 16 → form 1 (N r)) (hZ : ∀ r, r < 16 → V.at' Z r = leadOf (N r)) : ∀ k, k ≤ 16 → chain Z sn0 (cloudN N k) ∧ (cloudN N k = [] ∨ (lastS sn0 (cloudN N k)).rep < (k : Int))
  | 0, _ => ⟨trivial, Or.inl rfl⟩
  | k + 1, hk => by
    obtain ⟨h1, h2⟩ := chain_cloudN hN hZ k (by omega)
    have hb := leadOf_bd (hN k (by omega))
    rw [cloudN, chain_append, lastS_append]
    refine ⟨⟨h1, chain_tag Z k (by omega) _ _ (leadOf (N k) + 2) ?_ (by rw [hZ k (by omega)]; exact Int.le_refl _) (fun e => ?_) (form_rest (hN k (by omega)))⟩, ?_⟩
    · rcases h2 with h | h
      · rw [h]; show (0 : Int) ≤ _; omega
      · omega
    · rcases h2 with h | h
      · rw [h]; show (0 : Int) + 2 ≤ _; omega
      · omega
    · rcases last_tag (lastS sn0 (cloudN N k)) k (restOf (N k)) with h | h
      · rcases h2 with g | g
        · left; rw [g, h]; rfl
        · right; rw [h]; show (lastS sn0 (cloudN N k)).rep < _; omega
      · right; rw [h]; omega
/-- the tagged lists of the first k replicas -/
def catT (G : Nat → List Rn) : Nat → List Sn
  | 0 => []
  | k + 1 => catT G k ++ tag k (G k)
theorem cloudN_cat (N : Nat → List Rn) : ∀ k, cloudN N k = catT (fun r => restOf (N r)) k
  | 0 => rfl
  | k + 1 => by rw [cloudN, catT, cloudN_cat N k]
theorem catT_congr {G G' : Nat → List Rn} : ∀ k, (∀ r, r < k → G r = G' r) → catT G k = catT G' k
  | 0, _ => rfl
  | k + 1, h => by rw [catT, catT, catT_congr k (fun r hr => h r (by omega)), h k (by omega)]
theorem catT_snoc (G : Nat → List Rn) (q : Nat) (x : Rn) (hG : ∀ r, q < r → G r = []) : ∀ k, catT (fun r => if r = q then G r ++ [x] else G r) k = catT G k ++ (if q < k then [⟨(q : Int), x.lo, x.hi⟩] else [])
  | 0 => by simp [catT]
  | k + 1 => by
    rw [catT, catT, catT_snoc G q x hG k]
    by_cases h : k = q
    · subst h; simp [tag]
    · by_cases h' : q < k
      · simp [h, h', hG k h', show q < k + 1 by omega, tag]
      · simp [h, h', show ¬ q < k + 1 by omega]
theorem form_push' {acc : List Rn} {r : Rn} {l : Int} (h : form l acc) (hg : ∀ i x, acc = i ++ [x] → x.hi + 2 ≤ r.lo) (h1 : l ≤ r.lo) (h2 : r.lo ≤ r.hi) (h3 : r.hi ≤ 1000000000) : form l (acc ++ [r]) := by
  rcases List.eq_nil_or_concat acc with e | ⟨i, x, e⟩
  · subst e; exact ⟨h1, h2, h3, trivial⟩
  · rw [List.concat_eq_append] at e
    subst e
    exact form_snoc h (hg i x rfl) h2 h3
theorem chain_cat (Z : List Int) : ∀ (n : Nat) (L : List Sn), L.length = n → chain Z sn0 L → L = catT (cloudPart L) 16 ∧ (∀ r, r < 16 → form (V.at' Z r + 2) (cloudPart L r)) ∧ (∀ r : Nat, (lastS sn0 L).rep < (r : Int) → cloudPart L r = []) ∧ (∀ (q : Nat) i x, (q : Int) = (lastS sn0 L).rep → cloudPart L q = i ++ [x] → x.hi = (lastS sn0 L).hi)
  | 0, L, hn, _ => by
    obtain rfl := List.eq_nil_of_length_eq_zero hn
    have e : ∀ r, cloudPart [] r = [] := fun r => by simp [cloudPart]
    refine ⟨?_, fun r _ => by rw [e]; trivial, fun r _ => e r, fun q i x _ h => by rw [e] at h; simp at h⟩
    rw [catT_congr (G' := fun _ => []) 16 (fun r _ => e r)]
    rfl
  | n + 1, L, hn, h => by
    rcases List.eq_nil_or_concat L with e | ⟨M, c, e⟩
    · subst e; simp at hn
    · rw [List.concat_eq_append] at e
      subst e
      rw [chain_snoc] at h
      obtain ⟨i1, i2, i3, i4⟩ := chain_cat Z n M (by simpa using hn) h.1
      have S := h.2
      obtain ⟨q, hq, hq16⟩ : ∃ q : Nat, c.rep = (q : Int) ∧ q < 16 := by
        have := S.isr
        simp [V.isR] at this
        exact ⟨c.rep.toNat, by omega, by omega⟩
      have hp : ∀ r, cloudPart (M ++ [c]) r = if r = q then cloudPart M r ++ [⟨c.lo, c.hi⟩] else cloudPart M r := fun r => by
        rw [cloudPart_snoc]
        by_cases e : r = q
        · subst e; simp [hq]
        · have : ¬ c.rep = (r : Int) := by rw [hq]; omega
          simp [e, this]
      have hlast : (lastS sn0 (M ++ [c])) = c := lastS_snoc _ _ _
      refine ⟨?_, fun r hr => ?_, fun r hr => ?_, fun q' i x e1 e2 => ?_⟩
      · rw [catT_congr (G' := fun r => if r = q then cloudPart M r ++ [⟨c.lo, c.hi⟩] else cloudPart M r) 16 (fun r _ => hp r), catT_snoc (cloudPart M) q ⟨c.lo, c.hi⟩ (fun r hr => i3 r (by have := S.rep; omega)) 16, if_pos hq16, ← i1]
        have hc : c = ⟨(q : Int), c.lo, c.hi⟩ := by rw [← hq]
        exact congrArg (fun x => M ++ [x]) hc
      · rw [hp r]
        by_cases e : r = q
        · subst e
          rw [if_pos rfl]
          refine form_push' (i2 r hr) (fun i x hx => ?_) ?_ S.ord S.top
          · by_cases e2 : c.rep = (lastS sn0 M).rep
            · have h1 := i4 r i x (by rw [← e2, hq]) hx
              have h2 := S.gap e2
              show x.hi + 2 ≤ c.lo
              omega
            · have := i3 r (by have := S.rep; omega)
              rw [this] at hx
              simp at hx
          · have := S.lead
            rw [hq, atI_nat Z hr] at this
            exact this
        · rw [if_neg e]; exact i2 r hr
      · rw [hlast, hq] at hr
        rw [hp r, if_neg (by omega)]
        exact i3 r (by have := S.rep; omega)
      · rw [hlast, hq] at e1
        obtain rfl : q' = q := by omega
        rw [hp q', if_pos rfl] at e2
        have := List.append_inj' e2 rfl
        rw [hlast]
        have h2 := this.2
        simp at h2
        rw [← h2]
/-- a past in its own form -/
def Canon (P : Pst) : Prop := CanonOf (runsAt P) P
theorem canon_of_chain {P : Pst} (hv : P.vec = V.short (V.at' P.vec)) (hc : chain P.vec sn0 P.cloud) : Canon P := by
  obtain ⟨h1, h2, _, _⟩ := chain_cat P.vec _ P.cloud rfl hc
  have key : ∀ r, r < 16 → form 1 (runsAt P r) ∧ leadOf (runsAt P r) = V.at' P.vec r ∧ restOf (runsAt P r) = cloudPart P.cloud r := by
    intro r hr
    have hb := V.at'_bd P.vec r
    have hf := h2 r hr
    unfold runsAt vecPart
    by_cases h0 : 0 < V.at' P.vec r
    · rw [if_pos h0]
      exact ⟨⟨Int.le_refl _, (show (1 : Int) ≤ V.at' P.vec r by omega), hb.2, hf⟩, rfl, rfl⟩
    · rw [if_neg h0]
      have e0 : V.at' P.vec r = 0 := by omega
      rw [e0] at hf ⊢
      rw [List.nil_append]
      refine ⟨form_mono (by omega) hf, ?_⟩
      cases hcp : cloudPart P.cloud r with
      | nil => exact ⟨rfl, rfl⟩
      | cons x t =>
        rw [hcp] at hf
        have := hf.1
        have hne : ¬ x.lo = 1 := by omega
        simp [leadOf, restOf, hne]
  refine ⟨runsAt P, fun r hr => NormOf.self (key r hr).1, ?_⟩
  unfold canonP
  rw [cloudN_cat, catT_congr (G' := cloudPart P.cloud) 16 (fun r hr => (key r hr).2.2), ← h1, short_congr (g := V.at' P.vec) (fun r hr => (key r hr).2.1), ← hv]
theorem chain_N2 {N : Nat → List Rn} (hN : ∀ r, r < 16 → form 1 (N r)) (Z : List Int) (hZ : Z = V.short (fun r => leadOf (N r))) : ∀ r, r < 16 → V.at' Z r = leadOf (N r) := by
  have hf : ∀ r, r < 16 → 0 ≤ leadOf (N r) ∧ leadOf (N r) ≤ 1000000000 := fun r hr => leadOf_bd (hN r hr)
  intro r hr
  rw [hZ]
  exact at_short hf r hr
theorem chain_N3 {N : Nat → List Rn} (Z : List Int) (hZ : Z = V.short (fun r => leadOf (N r))) (hz : ∀ r, r < 16 → V.at' Z r = leadOf (N r)) : Z = V.short (V.at' Z) := by
  rw [short_congr hz]
  exact hZ
theorem canonP_vec (N : Nat → List Rn) : (canonP N).vec = V.short (fun r => leadOf (N r)) := rfl
theorem canonP_cloud (N : Nat → List Rn) : (canonP N).cloud = cloudN N 16 := rfl
theorem chain_N1 {N : Nat → List Rn} (hN : ∀ r, r < 16 → form 1 (N r)) (Z : List Int) (hz : ∀ r, r < 16 → V.at' Z r = leadOf (N r)) (k : Nat) (hk : k ≤ 16) (L : List Sn) (hL : L = cloudN N k) : chain Z sn0 L := by
  rw [hL]
  exact (chain_cloudN hN hz k hk).1
theorem chain_of_canon {P : Pst} {G : Nat → List Rn} (h : CanonOf G P) : P.vec = V.short (V.at' P.vec) ∧ chain P.vec sn0 P.cloud := by
  obtain ⟨N, hN, e⟩ := h
  have e1 : P.vec = V.short (fun r => leadOf (N r)) := by rw [e, canonP_vec]
  have e2 : P.cloud = cloudN N 16 := by rw [e, canonP_cloud]
  have hN' : ∀ r, r < 16 → form 1 (N r) := fun r hr => (hN r hr).1
  have hz := chain_N2 hN' P.vec e1
  exact And.intro (chain_N3 P.vec e1 hz) (chain_N1 hN' P.vec hz 16 (Nat.le_refl _) P.cloud e2)
theorem canon_iff {P : Pst} : Canon P ↔ P.vec = V.short (V.at' P.vec) ∧ chain P.vec sn0 P.cloud := ⟨fun h => chain_of_canon h, fun h => canon_of_chain h.1 h.2⟩
theorem CanonOf.canon {P : Pst} {G : Nat → List Rn} (h : CanonOf G P) : Canon P := canon_iff.2 (chain_of_canon h)
end Go.Proofs.Ytnghfnhpjdafmaa
