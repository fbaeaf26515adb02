/- Plain: marks of runs, depths, what a sweep keeps. -/
import Derived.Test.YtpolleieajgheaaDoorRPv
namespace Go.Proofs.YtpolleieajgheaaDoor

/-- at the number pos a run of set num begins (step 1) or has ended (step -1) -/
structure Mk where
  pos : Int
  num : Nat
  step : Int
def mk0 : Mk := ⟨0, 0, 0⟩
instance : Inhabited Mk := ⟨mk0⟩
/-- the depth of set s behind the marks -/
def dp : List Mk → Nat → Int
  | [], _ => 0
  | m :: r, s => (if m.num = s then m.step else 0) + dp r s
theorem dp_append (a b : List Mk) (s : Nat) : dp (a ++ b) s = dp a s + dp b s := by
  induction a with
  | nil => simp [dp]
  | cons m r ih => simp only [List.cons_append, dp, ih]; omega
theorem dp_perm {a b : List Mk} (h : a.Perm b) (s : Nat) : dp a s = dp b s := by
  induction h with
  | nil => rfl
  | cons x _ ih => simp only [dp, ih]
  | swap x y l => simp only [dp]; omega
  | trans _ _ h1 h2 => rw [h1, h2]
theorem dp_bd : ∀ (a : List Mk) (s : Nat), (∀ m, m ∈ a → m.step = 1 ∨ m.step = -1) → -(a.length : Int) ≤ dp a s ∧ dp a s ≤ a.length
  | [], _, _ => by simp [dp]
  | m :: r, s, h => by
    have h1 := dp_bd r s (fun x hx => h x (List.mem_cons_of_mem _ hx))
    have h2 := h m (List.mem_cons_self ..)
    simp only [dp, List.length_cons]
    split <;> omega
/-- the marks up to n -/
def upTo (l : List Mk) (n : Int) : List Mk := l.filter (fun m => decide (m.pos ≤ n))
theorem upTo_append (a b : List Mk) (n : Int) : upTo (a ++ b) n = upTo a n ++ upTo b n := by simp [upTo]
theorem upTo_all {a : List Mk} {n : Int} (h : ∀ m, m ∈ a → m.pos ≤ n) : upTo a n = a := List.filter_eq_self.2 (fun m hm => decide_eq_true (h m hm))
theorem upTo_none {a : List Mk} {n : Int} (h : ∀ m, m ∈ a → n < m.pos) : upTo a n = [] := List.filter_eq_nil_iff.2 (fun m hm => by have := h m hm; simp; omega)
/-- how deep set s lies over n -/
def wt (l : List Mk) (s : Nat) (n : Int) : Int := dp (upTo l n) s
theorem wt_perm {a b : List Mk} (h : a.Perm b) (s : Nat) (n : Int) : wt a s n = wt b s n := dp_perm (h.filter _) s
theorem wt_append (a b : List Mk) (s : Nat) (n : Int) : wt (a ++ b) s n = wt a s n + wt b s n := by unfold wt; rw [upTo_append, dp_append]
/-- the marks of a run of set s -/
def mkr (s : Nat) (r : Rn) : List Mk := if (clip r).lo ≤ (clip r).hi then [⟨(clip r).lo, s, 1⟩, ⟨(clip r).hi + 1, s, -1⟩] else []
def mks1 (s : Nat) (L : List Rn) : List Mk := L.flatMap (mkr s)
theorem mks1_append (s : Nat) (a b : List Rn) : mks1 s (a ++ b) = mks1 s a ++ mks1 s b := by simp [mks1]
theorem mks1_one (s : Nat) (r : Rn) : mks1 s [r] = mkr s r := by simp [mks1]
theorem mkr_len (s : Nat) (r : Rn) : (mkr s r).length ≤ 2 := by unfold mkr; split <;> simp
theorem mks1_len (s : Nat) (L : List Rn) : (mks1 s L).length ≤ 2 * L.length := by
  induction L with
  | nil => simp [mks1]
  | cons r L ih => have h : mks1 s (r :: L) = mkr s r ++ mks1 s L := rfl; rw [h, List.length_append]; have := mkr_len s r; simp only [List.length_cons]; omega
/-- the marks of the first k sets -/
def mksTo (X : List (List Rn)) : Nat → List Mk
  | 0 => []
  | k + 1 => mksTo X k ++ mks1 k (X.getD k [])
/-- how many runs cover n -/
def cov (n : Int) : List Rn → Int
  | [] => 0
  | r :: L => (if (clip r).lo ≤ n ∧ n ≤ (clip r).hi then 1 else 0) + cov n L
theorem cov_mem (n : Int) : ∀ (L : List Rn), 0 ≤ cov n L ∧ (0 < cov n L ↔ mem L n)
  | [] => ⟨Int.le_refl _, fun h => absurd h (by simp [cov]), fun h => absurd h (mem_nil n)⟩
  | r :: L => by
    obtain ⟨h1, h2⟩ := cov_mem n L
    have hc : ((clip r).lo ≤ n ∧ n ≤ (clip r).hi) ↔ (1 ≤ n ∧ n ≤ 1000000000 ∧ r.lo ≤ n ∧ n ≤ r.hi) := by unfold clip; simp only; omega
    rw [mem_cons, ← hc, ← h2]
    simp only [cov]
    split
    · rename_i h; exact ⟨by omega, fun _ => Or.inl h, fun _ => by omega⟩
    · rename_i h; exact ⟨by omega, fun e => Or.inr (by omega), fun e => e.elim (fun e => absurd e h) (fun e => by omega)⟩
theorem wt_mkr (s t : Nat) (r : Rn) (n : Int) : wt (mkr s r) t n = if s = t then (if (clip r).lo ≤ n ∧ n ≤ (clip r).hi then 1 else 0) else 0 := by
  unfold mkr
  by_cases h : (clip r).lo ≤ (clip r).hi
  · rw [if_pos h]
    unfold wt upTo
    by_cases h1 : (clip r).lo ≤ n
    · by_cases h2 : (clip r).hi + 1 ≤ n
      · by_cases e : s = t
        · simp [h1, h2, dp, e]; omega
        · simp [h1, h2, dp, e]
      · by_cases e : s = t
        · simp [h1, h2, dp, e]; omega
        · simp [h1, h2, dp, e]
    · have h2 : ¬ (clip r).hi + 1 ≤ n := by omega
      simp [h1, h2, dp]
  · rw [if_neg h]
    have : ¬ ((clip r).lo ≤ n ∧ n ≤ (clip r).hi) := by omega
    simp [wt, upTo, dp, this]
theorem wt_mks1 (s t : Nat) (n : Int) : ∀ (L : List Rn), wt (mks1 s L) t n = if s = t then cov n L else 0
  | [] => by simp [mks1, wt, upTo, dp, cov]
  | r :: L => by
    have h : mks1 s (r :: L) = mkr s r ++ mks1 s L := rfl
    rw [h, wt_append, wt_mkr, wt_mks1 s t n L]
    by_cases e : s = t
    · simp [e, cov]
    · simp [e]
theorem wt_mks (X : List (List Rn)) (t : Nat) (n : Int) : ∀ k, wt (mksTo X k) t n = if t < k then cov n (X.getD t []) else 0
  | 0 => by simp [mksTo, wt, upTo, dp]
  | k + 1 => by
    rw [mksTo, wt_append, wt_mks X t n k, wt_mks1]
    by_cases h : t < k
    · rw [if_pos h, if_neg (by omega), if_pos (by omega)]; omega
    · by_cases e : k = t
      · subst e; rw [if_neg h, if_pos rfl, if_pos (by omega)]; omega
      · rw [if_neg h, if_neg e, if_neg (by omega)]; omega
/-- a mark is well formed -/
def MkOK (q : Nat) (m : Mk) : Prop := 1 ≤ m.pos ∧ m.pos ≤ 1000000001 ∧ m.num < q ∧ (m.step = 1 ∨ m.step = -1)
theorem mkr_ok {s q : Nat} (hs : s < q) (r : Rn) : ∀ m, m ∈ mkr s r → MkOK q m := by
  intro m hm
  unfold mkr at hm
  split at hm
  · rename_i h
    have h1 : 1 ≤ (clip r).lo := by unfold clip; simp only; omega
    have h2 : (clip r).hi ≤ 1000000000 := by unfold clip; simp only; omega
    simp only [List.mem_cons, List.not_mem_nil, or_false] at hm
    rcases hm with rfl | rfl
    · exact ⟨h1, by simp only; omega, hs, Or.inl rfl⟩
    · exact ⟨by simp only; omega, by simp only; omega, hs, Or.inr rfl⟩
  · cases hm
theorem mks1_ok {s q : Nat} (hs : s < q) (L : List Rn) : ∀ m, m ∈ mks1 s L → MkOK q m := by
  intro m hm
  obtain ⟨r, _, h⟩ := List.mem_flatMap.1 hm
  exact mkr_ok hs r m h
theorem mks_ok (X : List (List Rn)) {q : Nat} : ∀ k, k ≤ q → ∀ m, m ∈ mksTo X k → MkOK q m
  | 0, _, m, hm => by cases hm
  | k + 1, hk, m, hm => by
    rcases List.mem_append.1 hm with h | h
    · exact mks_ok X k (by omega) m h
    · exact mks1_ok (by omega) _ m h
/-- beyond the last number no set has any depth -/
theorem dp_mks (X : List (List Rn)) (k t : Nat) : dp (mksTo X k) t = 0 := by
  have h := wt_mks X t 1000000001 k
  have e : upTo (mksTo X k) 1000000001 = mksTo X k := upTo_all (fun m hm => (mks_ok X (q := k) k (Nat.le_refl _) m hm).2.1)
  unfold wt at h
  rw [e] at h
  rw [h]
  split
  · have := cov_mem 1000000001 (X.getD t [])
    have hm : ¬ mem (X.getD t []) 1000000001 := fun h => by have := h.2.1; omega
    have h1 := this.1
    have h2 : ¬ 0 < cov 1000000001 (X.getD t []) := fun h => hm (this.2.1 h)
    omega
  · rfl
/-- what a sweep keeps -/
def kp (how : Int) (q : Nat) (D : Nat → Int) : Prop :=
  if how = 2 then (∀ s, s < q → 0 < D s) else if how = 3 then (0 < D 0 ∧ ∀ s, 0 < s → s < q → ¬ 0 < D s) else ∃ s, s < q ∧ 0 < D s
theorem kp_congr {how : Int} {q : Nat} {D E : Nat → Int} (h : ∀ s, D s = E s) : kp how q D ↔ kp how q E := by
  rw [show D = E from funext h]
theorem kp_zero {how : Int} {q : Nat} (hq : 0 < q) : ¬ kp how q (fun _ => 0) := by
  unfold kp
  split
  · exact fun h => Int.lt_irrefl 0 (h 0 hq)
  · split
    · exact fun h => Int.lt_irrefl 0 h.1
    · rintro ⟨s, _, h⟩; exact Int.lt_irrefl 0 h
def pos (d : Int) : Bool := decide (0 < d)
/-- what the program reckons: how many sets are over 0, and the first one's depth -/
def kpB (how : Int) (q c : Nat) (d0 : Int) : Bool := if how = 3 then decide (c = 1) && decide (0 < d0) else if how = 2 then decide (c = q) else decide (0 < c)
theorem kpB_iff {how : Int} {q : Nat} {ds : List Int} {D : Nat → Int} (hq : 0 < q) (hl : ds.length = q) (hd : ∀ s, s < q → ds.getD s 0 = D s) : kpB how q (ds.countP pos) (ds.getD 0 0) = true ↔ kp how q D := by
  have hel : ∀ s (h : s < ds.length), ds[s] = D s := fun s h => by rw [← hd s (by omega)]; simp [List.getD, h]
  unfold kpB kp
  by_cases h3 : how = 3
  · subst h3
    simp only [if_true]
    rw [if_neg (by omega)]
    rw [← hd 0 hq]
    obtain ⟨d, r, rfl⟩ : ∃ d r, ds = d :: r := by
      cases ds with
      | nil => simp at hl; omega
      | cons d r => exact ⟨d, r, rfl⟩
    have e0 : (d :: r).getD 0 0 = d := rfl
    rw [e0]
    by_cases hp : 0 < d
    · have hc : (d :: r).countP pos = r.countP pos + 1 := List.countP_cons_of_pos (by simp [pos, hp])
      rw [hc]
      simp only [hp, decide_true, Bool.and_true, decide_eq_true_eq, true_and, Nat.add_eq_right]
      rw [List.countP_eq_zero]
      constructor
      · intro h s h1 h2
        have hs : s - 1 < r.length := by simp at hl; omega
        have := h r[s - 1] (List.getElem_mem hs)
        have e := hel s (by omega)
        rw [← e, List.getElem_cons, dif_neg (by omega)]
        simpa [pos] using this
      · intro h a ha
        obtain ⟨j, hj, rfl⟩ := List.mem_iff_getElem.1 ha
        have := h (j + 1) (by omega) (by simp at hl; omega)
        have e := hel (j + 1) (by simp; omega)
        rw [← e] at this
        simpa [pos] using this
    · simp [hp]
  · rw [if_neg h3]
    by_cases h2 : how = 2
    · rw [if_pos h2, if_pos h2, decide_eq_true_eq]
      rw [show (ds.countP pos = q ↔ ds.countP pos = ds.length) by rw [hl], List.countP_eq_length]
      constructor
      · intro h s hs
        have := h ds[s] (List.getElem_mem (by omega))
        rw [hel s (by omega)] at this
        simpa [pos] using this
      · intro h a ha
        obtain ⟨j, hj, rfl⟩ := List.mem_iff_getElem.1 ha
        rw [hel j hj]
        simpa [pos] using h j (by omega)
    · rw [if_neg h2, if_neg h2, if_neg h3, decide_eq_true_eq, List.countP_pos_iff]
      constructor
      · rintro ⟨a, ha, hp⟩
        obtain ⟨j, hj, rfl⟩ := List.mem_iff_getElem.1 ha
        rw [hel j hj] at hp
        exact ⟨j, by omega, by simpa [pos] using hp⟩
      · rintro ⟨s, hs, hp⟩
        exact ⟨ds[s], List.getElem_mem (by omega), by rw [hel s (by omega)]; simpa [pos] using hp⟩
/-- the depths behind the marks of P -/
def Dep (q : Nat) (P : List Mk) (ds : List Int) : Prop := ds.length = q ∧ ∀ s, s < q → ds.getD s 0 = dp P s
theorem Dep.start (q : Nat) : Dep q [] (List.replicate q 0) := ⟨by simp, fun s hs => by simp [List.getD, dp, hs]⟩
theorem Dep.step {q : Nat} {P : List Mk} {ds : List Int} (h : Dep q P ds) (m : Mk) (_ : m.num < q) : Dep q (P ++ [m]) (ds.set m.num (ds.getD m.num 0 + m.step)) := by
  refine ⟨by simp [h.1], fun s hs => ?_⟩
  rw [dp_append, ← h.2 s hs]
  by_cases e : m.num = s
  · subst e; simp [List.getD, h.1, hs, dp]
  · simp [List.getD, e, dp]
theorem cnt_set {ds : List Int} {s : Nat} (hs : s < ds.length) (v : Int) : ((ds.set s v).countP pos : Int) = (ds.countP pos : Int) - (if 0 < ds.getD s 0 then 1 else 0) + (if 0 < v then 1 else 0) := by
  have hg : ds.getD s 0 = ds[s] := by simp [List.getD, hs]
  have h := List.countP_set (p := pos) (a := v) hs
  have hle : (if 0 < ds[s] then 1 else 0) ≤ ds.countP pos := by
    split
    · rename_i h; exact List.countP_pos_iff.2 ⟨ds[s], List.getElem_mem hs, by simp [pos, h]⟩
    · omega
  rw [h, hg]
  simp only [pos, decide_eq_true_eq]
  by_cases h1 : 0 < ds[s] <;> by_cases h2 : 0 < v <;> simp only [h1, h2, if_true, if_false] at hle ⊢ <;> omega
theorem cnt_le {ds : List Int} {q : Nat} (h : ds.length = q) : ds.countP pos ≤ q := by rw [← h]; exact List.countP_le_length
/-- sorted by place -/
def Ris (l : List Mk) : Prop := l.Pairwise (fun x y => x.pos ≤ y.pos)
/-- a sweep has come to place k of the marks l; out is what it has kept -/
structure SwInv (how : Int) (q : Nat) (l : List Mk) (k : Nat) (out : List Rn) : Prop where
  frm : form 1 out
  cut : ∀ a b, a ∈ l.take k → b ∈ l.drop k → a.pos < b.pos
  mm : ∀ n, mem out n ↔ ((∀ b, b ∈ l.drop k → n < b.pos) ∧ kp how q (fun s => wt l s n))
theorem SwInv.start {how : Int} {q : Nat} {l : List Mk} (hq : 0 < q) : SwInv how q l 0 [] := by
  refine ⟨trivial, fun a b h => by simp at h, fun n => ⟨fun h => absurd h (mem_nil n), ?_⟩⟩
  rintro ⟨h1, h2⟩
  refine absurd h2 ?_
  rw [kp_congr (E := fun _ => 0) (fun s => by unfold wt; rw [upTo_none (by simpa using h1)]; rfl)]
  exact kp_zero hq
/-- the members behind the last mark of place x and ahead of the next one -/
theorem wt_mid {l : List Mk} {k : Nat} {n : Int} (h1 : ∀ a, a ∈ l.take k → a.pos ≤ n) (h2 : ∀ b, b ∈ l.drop k → n < b.pos) (s : Nat) : wt l s n = dp (l.take k) s := by
  have e := List.take_append_drop k l
  have : upTo l n = l.take k := by
    rw [← e, upTo_append, upTo_all h1, upTo_none h2, List.append_nil, e]
  unfold wt; rw [this]
/-- nothing is kept: a group of marks of one place x, from k to k' -/
theorem SwInv.skip {how : Int} {q : Nat} {l : List Mk} {k k' : Nat} {out : List Rn} {x : Int} (h : SwInv how q l k out) (hk : k ≤ k') (h1 : ∀ a, a ∈ l.take k' → a.pos ≤ x) (h2 : ∀ b, b ∈ l.drop k' → x < b.pos) (h3 : ∀ b, b ∈ l.drop k → x ≤ b.pos) (h0 : ∃ b, b ∈ l.drop k ∧ b.pos = x)
    (hn : ¬ kp how q (dp (l.take k'))) : SwInv how q l k' out := by
  refine ⟨h.frm, fun a b ha hb => Int.lt_of_le_of_lt (h1 a ha) (h2 b hb), fun n => ?_⟩
  rw [h.mm n]
  constructor
  · rintro ⟨e1, e2⟩
    exact ⟨fun b hb => e1 b (List.mem_of_mem_drop (by rw [show k' = k + (k' - k) by omega, ← List.drop_drop] at hb; exact hb)), e2⟩
  · rintro ⟨e1, e2⟩
    refine ⟨fun b hb => ?_, e2⟩
    by_cases c : n < x
    · exact Int.lt_of_lt_of_le c (h3 b hb)
    · refine absurd e2 ?_
      rw [kp_congr (fun s => wt_mid (fun a ha => by have := h1 a ha; omega) e1 s)]
      exact hn
theorem out_last {i : List Rn} {r : Rn} (h : form 1 (i ++ [r])) : mem (i ++ [r]) r.hi := by
  have := form_last h
  exact (mem_append _ _ _).2 (Or.inr ((mem_one _ _).2 ⟨by omega, by omega, by omega, by omega⟩))
/-- the runs behind a new piece from x to y -/
def lay (out : List Rn) (x y : Int) : List Rn :=
  match out.getLast? with
  | none => [⟨x, y⟩]
  | some r => if r.hi = x - 1 then out.dropLast ++ [⟨r.lo, y⟩] else out ++ [⟨x, y⟩]
theorem lay_nil (x y : Int) : lay [] x y = [⟨x, y⟩] := rfl
theorem lay_up (i : List Rn) (r : Rn) (x y : Int) (h : r.hi = x - 1) : lay (i ++ [r]) x y = i ++ [⟨r.lo, y⟩] := by simp [lay, h]
theorem lay_new (i : List Rn) (r : Rn) (x y : Int) (h : ¬ r.hi = x - 1) : lay (i ++ [r]) x y = i ++ [r] ++ [⟨x, y⟩] := by simp [lay, h]
theorem lay_mem {out : List Rn} {x y : Int} (hf : form 1 out) (hx : 1 ≤ x) (hxy : x ≤ y) (hy : y ≤ 1000000000) (hb : ∀ n, mem out n → n < x) : form 1 (lay out x y) ∧ ∀ n, mem (lay out x y) n ↔ mem out n ∨ (x ≤ n ∧ n ≤ y) := by
  rcases List.eq_nil_or_concat out with e | ⟨i, r, e⟩
  · subst e
    rw [lay_nil]
    refine ⟨⟨hx, hxy, hy, trivial⟩, fun n => ?_⟩
    rw [mem_one]
    exact ⟨fun e => Or.inr e.2.2, fun e => e.elim (fun e => absurd e (mem_nil n)) (fun e => by simp only; omega)⟩
  · rw [List.concat_eq_append] at e
    subst e
    have hl := form_last hf
    have hm := hb r.hi (out_last hf)
    by_cases c : r.hi = x - 1
    · rw [lay_up i r x y c]
      refine ⟨form_up hf rfl (by simp only; omega) (by simp only; omega), fun n => ?_⟩
      rw [mem_append, mem_one, mem_append, mem_one]
      simp only
      constructor
      · rintro (e | e)
        · exact Or.inl (Or.inl e)
        · by_cases d : n ≤ r.hi
          · exact Or.inl (Or.inr (by omega))
          · exact Or.inr (by omega)
      · rintro ((e | e) | e)
        · exact Or.inl e
        · exact Or.inr (by omega)
        · exact Or.inr (by omega)
    · rw [lay_new i r x y c]
      refine ⟨form_snoc hf (by simp only; omega) hxy hy, fun n => ?_⟩
      rw [mem_append, mem_one]
      simp only
      constructor
      · rintro (e | e)
        · exact Or.inl e
        · exact Or.inr e.2.2
      · rintro (e | e)
        · exact Or.inl e
        · exact Or.inr (by omega)
theorem SwInv.keep {how : Int} {q : Nat} {l : List Mk} {k k' : Nat} {out : List Rn} {x y : Int} (h : SwInv how q l k out) (hk : k ≤ k') (h1 : ∀ a, a ∈ l.take k' → a.pos ≤ x) (h2 : ∀ b, b ∈ l.drop k' → y ≤ b.pos) (h3 : ∀ b, b ∈ l.drop k → x ≤ b.pos) (h0 : ∃ b, b ∈ l.drop k ∧ b.pos = x)
    (h4 : ∃ b, b ∈ l.drop k' ∧ b.pos = y) (hx : 1 ≤ x) (hxy : x < y) (hy : y ≤ 1000000001) (hn : kp how q (dp (l.take k'))) : SwInv how q l k' (lay out x (y - 1)) := by
  have hb : ∀ n, mem out n → n < x := fun n hn => by
    obtain ⟨b, hb, e⟩ := h0
    have := ((h.mm n).1 hn).1 b hb
    omega
  obtain ⟨g1, g2⟩ := lay_mem (x := x) (y := y - 1) h.frm hx (by omega) (by omega) hb
  refine ⟨g1, fun a b ha hb => by have := h1 a ha; have := h2 b hb; omega, fun n => ?_⟩
  rw [g2 n, h.mm n]
  constructor
  · rintro (⟨e1, e2⟩ | e)
    · exact ⟨fun b hb => e1 b (List.mem_of_mem_drop (by rw [show k' = k + (k' - k) by omega, ← List.drop_drop] at hb; exact hb)), e2⟩
    · have e1 : ∀ b, b ∈ l.drop k' → n < b.pos := fun b hb => by have := h2 b hb; omega
      refine ⟨e1, ?_⟩
      rw [kp_congr (fun s => wt_mid (fun a ha => by have := h1 a ha; omega) e1 s)]
      exact hn
  · rintro ⟨e1, e2⟩
    by_cases c : n < x
    · exact Or.inl ⟨fun b hb => Int.lt_of_lt_of_le c (h3 b hb), e2⟩
    · obtain ⟨b, hb, e⟩ := h4
      have := e1 b hb
      exact Or.inr (by omega)
/-- a sweep over the marks of the sets X -/
def Kept (how : Int) (X : List (List Rn)) (n : Int) : Prop :=
  if how = 2 then (∀ s, s < X.length → mem (X.getD s []) n) else if how = 3 then (mem (X.getD 0 []) n ∧ ∀ s, 0 < s → s < X.length → ¬ mem (X.getD s []) n) else ∃ s, s < X.length ∧ mem (X.getD s []) n
theorem SwInv.done {how : Int} {X : List (List Rn)} {l : List Mk} {out : List Rn} (hX : 0 < X.length) (hp : l.Perm (mksTo X X.length)) (h : SwInv how X.length l l.length out) : form 1 out ∧ ∀ n, mem out n ↔ Kept how X n := by
  refine ⟨h.frm, fun n => ?_⟩
  rw [h.mm n]
  have hd : ∀ s, s < X.length → (0 < wt l s n ↔ mem (X.getD s []) n) := fun s hs => by
    rw [wt_perm hp s n, wt_mks, if_pos hs]
    exact (cov_mem n _).2
  have e : kp how X.length (fun s => wt l s n) ↔ Kept how X n := by
    unfold kp Kept
    split
    · exact ⟨fun g s hs => (hd s hs).1 (g s hs), fun g s hs => (hd s hs).2 (g s hs)⟩
    · split
      · rw [hd 0 hX]
        exact ⟨fun g => ⟨g.1, fun s h1 h2 e => g.2 s h1 h2 ((hd s h2).2 e)⟩, fun g => ⟨g.1, fun s h1 h2 e => g.2 s h1 h2 ((hd s h2).1 e)⟩⟩
      · exact ⟨fun ⟨s, h1, h2⟩ => ⟨s, h1, (hd s h1).1 h2⟩, fun ⟨s, h1, h2⟩ => ⟨s, h1, (hd s h1).2 h2⟩⟩
  rw [← e]
  exact ⟨fun g => g.2, fun g => ⟨fun b hb => by simp at hb, g⟩⟩
end Go.Proofs.YtpolleieajgheaaDoor
