/- Lines: what the lines of entries are, plain. -/
import Derived.Test.YtmhdhedjeaaciaaLUp
import Derived.Test.YtmhdhedjeaaciaaLOf
import Derived.Sort.KeysCollected
import Derived.Maps.Ext
namespace Go.Proofs.Ytmhdhedjeaaciaa
open Go.RowKit Go.Maps Go.Sort

/-- a line -/
structure Ln where
  sku : ByteArray
  qty : Int
  parts : Int
def ln0 : Ln := ⟨⟨#[]⟩, 0, 0⟩
def addL (l : Ln) (e : En) : Ln := ⟨e.sku, l.qty + e.qty, l.parts + 1⟩
def ofS (L : List En) (s : ByteArray) : List En := L.filter (fun e => eqS e.sku s)
/-- the SKU's line -/
def lineOf (L : List En) (s : ByteArray) : Ln := (ofS L s).foldl addL ln0
theorem eqS_iff (a b : ByteArray) : eqS a b = true ↔ a = b := by
  unfold eqS
  rw [beq_iff_eq, ByteArray.toList_eq, ByteArray.toList_eq]
  constructor
  · intro h; cases a; cases b; simp at h; simp [h]
  · rintro rfl; rfl
theorem eqS_no (a b : ByteArray) : eqS a b = false ↔ a ≠ b := by
  rw [← Bool.not_eq_true, ne_eq, eqS_iff]
theorem ofS_snoc (L : List En) (e : En) (s : ByteArray) : ofS (L ++ [e]) s = if e.sku = s then ofS L s ++ [e] else ofS L s := by
  unfold ofS
  rw [List.filter_append]
  by_cases h : e.sku = s
  · rw [if_pos h]; simp [(eqS_iff _ _).2 h]
  · rw [if_neg h]; simp [(eqS_no _ _).2 h]
theorem lineOf_same (L : List En) (e : En) : lineOf (L ++ [e]) e.sku = addL (lineOf L e.sku) e := by
  unfold lineOf; rw [ofS_snoc, if_pos rfl, List.foldl_append]; rfl
theorem lineOf_other (L : List En) (e : En) (s : ByteArray) (h : e.sku ≠ s) : lineOf (L ++ [e]) s = lineOf L s := by
  unfold lineOf; rw [ofS_snoc, if_neg h]
/-- all entries are in form -/
def AllOk (L : List En) : Prop := ∀ e ∈ L, 1 ≤ e.qty ∧ e.qty ≤ 1000000
theorem ce_qty {z : En} (hz : ceE z = 0) : 1 ≤ z.qty ∧ z.qty ≤ 1000000 := by
  unfold ceE at hz
  by_cases h1 : isR z.rep = false
  · rw [if_pos h1] at hz; omega
  · rw [if_neg h1] at hz
    by_cases h2 : z.num < 1 ∨ 1000000000 < z.num
    · rw [if_pos h2] at hz; omega
    · rw [if_neg h2] at hz
      by_cases h3 : good z.sku.data.toList = false
      · rw [if_pos h3] at hz; omega
      · rw [if_neg h3] at hz
        by_cases h4 : z.qty < 1 ∨ 1000000 < z.qty
        · rw [if_pos h4] at hz; omega
        · omega
theorem ce_good {z : En} (hz : ceE z = 0) : good z.sku.data.toList = true := by
  unfold ceE at hz
  by_cases h1 : isR z.rep = false
  · rw [if_pos h1] at hz; omega
  · rw [if_neg h1] at hz
    by_cases h2 : z.num < 1 ∨ 1000000000 < z.num
    · rw [if_pos h2] at hz; omega
    · rw [if_neg h2] at hz
      by_cases h3 : good z.sku.data.toList = false
      · rw [if_pos h3] at hz; omega
      · simpa using h3
theorem chk_ce {L : List En} (h : chk L = 0) : ∀ e ∈ L, ceE e = 0 := by
  intro e he
  obtain ⟨k, hk, rfl⟩ := List.getElem_of_mem he
  have := okN_at L _ (chk_zero h) k hk
  simp only [okAt, Bool.and_eq_true, beq_iff_eq] at this
  have e1 : L.getD k en0 = L[k] := by simp [List.getD, hk]
  rw [← e1]; exact this.1
theorem chk_all {L : List En} (h : chk L = 0) : AllOk L := fun e he => ce_qty (chk_ce h e he)
theorem fold_bd (L : List En) (h : AllOk L) : ∀ l : Ln, (L.foldl addL l).qty ≤ l.qty + L.length * 1000000 ∧ l.qty + L.length ≤ (L.foldl addL l).qty ∧ (L.foldl addL l).parts = l.parts + L.length := by
  induction L with
  | nil => intro l; simp
  | cons a L ih =>
    intro l
    have ha := h a (by simp)
    have := ih (fun e he => h e (by simp [he])) (addL l a)
    simp only [List.foldl_cons, List.length_cons, addL] at this ⊢
    omega
theorem ofS_len (L : List En) (s : ByteArray) : (ofS L s).length ≤ L.length := List.length_filter_le _ _
theorem ofS_ok {L : List En} (h : AllOk L) (s : ByteArray) : AllOk (ofS L s) := fun e he => h e (List.mem_filter.1 he).1
theorem line_bd (L : List En) (h : AllOk L) (s : ByteArray) : 0 ≤ (lineOf L s).qty ∧ (lineOf L s).qty ≤ L.length * 1000000 ∧ 0 ≤ (lineOf L s).parts ∧ (lineOf L s).parts ≤ L.length := by
  have := fold_bd (ofS L s) (ofS_ok h s) ln0
  have hl := ofS_len L s
  unfold lineOf
  simp only [ln0] at this ⊢
  omega
theorem fold_sku (L : List En) (s : ByteArray) (h : ∀ e ∈ L, e.sku = s) : ∀ l : Ln, L ≠ [] → (L.foldl addL l).sku = s := by
  induction L with
  | nil => intro l h; exact absurd rfl h
  | cons a L ih =>
    intro l _
    cases L with
    | nil => simp [addL, h a (by simp)]
    | cons b L => exact ih (fun e he => h e (by simp [he])) (addL l a) (by simp)
theorem ofS_mem {L : List En} {s : ByteArray} {e : En} : e ∈ ofS L s ↔ e ∈ L ∧ e.sku = s := by
  unfold ofS; rw [List.mem_filter, eqS_iff]
theorem line_sku (L : List En) (e : En) (he : e ∈ L) : (lineOf L e.sku).sku = e.sku := by
  refine fold_sku _ _ (fun x hx => (ofS_mem.1 hx).2) _ (fun h => ?_)
  have : e ∈ ofS L e.sku := ofS_mem.2 ⟨he, rfl⟩
  rw [h] at this; cases this
theorem line_parts (L : List En) (h : AllOk L) (s : ByteArray) : (lineOf L s).parts = (ofS L s).length := by
  have := fold_bd (ofS L s) (ofS_ok h s) ln0
  unfold lineOf
  simp only [ln0] at this ⊢
  omega

/-- what Lines answers: the lines, rising by SKU, one for each SKU -/
def LinesOf (L : List En) (R : List Ln) (er : Int) : Prop :=
  (chk L ≠ 0 ∧ R = [] ∧ er = 1) ∨ (chk L = 0 ∧ er = 0 ∧ R.Pairwise (fun a b => a.sku.data.toList < b.sku.data.toList) ∧ ∀ l, l ∈ R ↔ ∃ e ∈ L, l = lineOf L e.sku)
theorem rising_unique : ∀ {R R' : List Ln}, R.Pairwise (fun a b => a.sku.data.toList < b.sku.data.toList) → R'.Pairwise (fun a b => a.sku.data.toList < b.sku.data.toList) → (∀ l, l ∈ R ↔ l ∈ R') → R = R' := by
  intro R R' h h' hm
  have nd : ∀ {R : List Ln}, R.Pairwise (fun a b => a.sku.data.toList < b.sku.data.toList) → R.Nodup := fun {R} h => h.imp (fun {a b} hab e => by subst e; exact List.lt_irrefl _ hab)
  have hp : R.Perm R' := (List.perm_ext_iff_of_nodup (nd h) (nd h')).2 hm
  refine List.Perm.eq_of_pairwise (le := fun a b : Ln => a.sku.data.toList < b.sku.data.toList) (fun a b _ _ h1 h2 => ?_) h h' hp
  exact absurd (List.lt_trans h1 h2) (List.lt_irrefl _)
theorem LinesOf.unique {L : List En} {R R' : List Ln} {e e' : Int} (h : LinesOf L R e) (h' : LinesOf L R' e') : R = R' ∧ e = e' := by
  rcases h with ⟨a, b, c⟩ | ⟨a, b, c, d⟩
  · rcases h' with ⟨_, b', c'⟩ | ⟨a', _⟩
    · exact ⟨b.trans b'.symm, c.trans c'.symm⟩
    · exact absurd a' a
  · rcases h' with ⟨a', _⟩ | ⟨_, b', c', d'⟩
    · exact absurd a a'
    · exact ⟨rising_unique c c' (fun l => (d l).trans (d' l).symm), b.trans b'.symm⟩

/-- what the map holds behind these entries -/
def Mp (D : DataW Ln) (L : List En) : Prop := (∀ s : ByteArray, has D (.string s.data.toList) = true ↔ ∃ e ∈ L, e.sku = s) ∧ ∀ s : ByteArray, D.atKey (.string s.data.toList) (.held ln0) = .held (lineOf L s)
theorem mp_start : Mp (.map []) [] := ⟨fun s => by simp [has], fun s => rfl⟩
theorem str_inj {a b : ByteArray} (h : (Lit.string a.data.toList) = .string b.data.toList) : a = b := by
  cases a; cases b; simp at h; simp [h]
theorem mp_step {D : DataW Ln} {L : List En} (h : Mp D L) (hm : IsMap D) (e : En) : Mp (D.put (.string e.sku.data.toList) (.held (addL (lineOf L e.sku) e))) (L ++ [e]) := by
  refine ⟨fun s => ?_, fun s => ?_⟩
  · by_cases hs : e.sku = s
    · subst hs
      rw [has_put_same hm (k := .string e.sku.data.toList) (show WideAt.IsKeyLit (.string e.sku.data.toList) from trivial)]
      exact ⟨fun _ => ⟨e, by simp, rfl⟩, fun _ => rfl⟩
    · rw [has_put_other (fun he => hs (str_inj he).symm), h.1 s]
      constructor
      · rintro ⟨x, hx, rfl⟩; exact ⟨x, by simp [hx], rfl⟩
      · rintro ⟨x, hx, rfl⟩
        rcases List.mem_append.1 hx with hx | hx
        · exact ⟨x, hx, rfl⟩
        · simp at hx; subst hx; exact absurd rfl hs
  · by_cases hs : e.sku = s
    · subst hs
      rw [atKey_put_same hm (k := .string e.sku.data.toList) (show WideAt.IsKeyLit (.string e.sku.data.toList) from trivial), lineOf_same]
    · rw [atKey_put_other (fun he => hs (str_inj he).symm), h.2 s, lineOf_other _ _ _ hs]
/-- the keys, sorted, and their lines -/
theorem lines_of_keys {P : Program} {k : TypeId} {R : Value → Option (DataW Ln × List MemPlace)} {w : World} {b n : Nat} {D : DataW Ln} {L : List En} (hown : w.ownsMap P k R b n D) (K : Keyed P k) (hk : P.underlying k = some .string) (hM : Mp D L) (hc : chk L = 0)
    {ss : List (List UInt8)} (hp : ss.Perm (strKeys D)) : LinesOf L ((ss.mergeSort leB).map (fun x => lineOf L ⟨x.toArray⟩)) 0 := by
  obtain ⟨es, hD, hpw, _⟩ := hown.entries K
  obtain ⟨es', hD', hko⟩ := hown.keysOf
  obtain rfl : es = es' := by rw [hD] at hD'; simpa using hD'
  subst hD
  have hks : ∀ p ∈ es, ∃ x, p.1 = .string x := fun p hp => by obtain ⟨v, hv⟩ := hko p hp; obtain ⟨x, _, hx, _⟩ := Maps.keyOf_str hk hv; exact ⟨x, hx⟩
  have hnd : (strKeys (.map es)).Nodup := by
    show (es.map fun p => strOf p.1).Nodup
    refine List.pairwise_map.2 (hpw.imp_of_mem fun {p q} hp' hq' hne e => hne ?_)
    obtain ⟨a, ha⟩ := hks p hp'
    obtain ⟨b, hb⟩ := hks q hq'
    rw [ha, hb] at e ⊢
    exact congrArg _ e
  have hmem : ∀ x, x ∈ strKeys (.map es) ↔ has (.map es) (.string x) = true := fun x => by
    rw [has_eq, List.any_eq_true]
    show x ∈ es.map (fun p => strOf p.1) ↔ _
    rw [List.mem_map]
    constructor
    · rintro ⟨p, hp', rfl⟩
      obtain ⟨a, ha⟩ := hks p hp'
      exact ⟨p, hp', by rw [ha]; simp [Lit.sameKey, strOf]⟩
    · rintro ⟨p, hp', hs⟩
      obtain ⟨a, ha⟩ := hks p hp'
      rw [ha] at hs
      exact ⟨p, hp', by rw [ha]; simpa [Lit.sameKey, strOf] using hs⟩
  have hT : (ss.mergeSort leB).Perm (strKeys (.map es)) := (List.mergeSort_perm ss leB).trans hp
  have tr : ∀ a b c : List UInt8, leB a b = true → leB b c = true → leB a c = true := fun a b c h1 h2 => by simp only [leB, decide_eq_true_eq] at *; exact List.le_trans h1 h2
  have to : ∀ a b : List UInt8, (leB a b || leB b a) = true := fun a b => by simp only [leB, Bool.or_eq_true, decide_eq_true_eq]; exact List.le_total a b
  have hs1 : (ss.mergeSort leB).Pairwise (fun a b => leB a b = true) := List.pairwise_mergeSort tr to ss
  have hnd2 : (ss.mergeSort leB).Nodup := hT.nodup_iff.2 hnd
  have hlt : (ss.mergeSort leB).Pairwise (fun a b => a < b) := (hs1.and hnd2).imp (fun {a b} h => by
    obtain ⟨h1, h2⟩ := h
    simp only [leB, decide_eq_true_eq] at h1
    refine Classical.byContradiction fun h => h2 (List.le_antisymm h1 ?_)
    exact List.not_lt.1 h)
  have hin : ∀ x, x ∈ ss.mergeSort leB ↔ ∃ e ∈ L, e.sku = ⟨x.toArray⟩ := fun x => by
    rw [hT.mem_iff, hmem]
    have := hM.1 ⟨x.toArray⟩
    simpa using this
  refine Or.inr ⟨hc, rfl, ?_, fun l => ?_⟩
  · rw [List.pairwise_map]
    refine hlt.imp_of_mem (fun {a b} ha hb hab => ?_)
    obtain ⟨e, he, hea⟩ := (hin a).1 ha
    obtain ⟨f, hf, hfb⟩ := (hin b).1 hb
    rw [← hea, ← hfb, line_sku L e he, line_sku L f hf, hea, hfb]
    simpa using hab
  · rw [List.mem_map]
    constructor
    · rintro ⟨x, hx, rfl⟩
      obtain ⟨e, he, hea⟩ := (hin x).1 hx
      exact ⟨e, he, by rw [hea]⟩
    · rintro ⟨e, he, rfl⟩
      refine ⟨e.sku.data.toList, (hin _).2 ⟨e, he, ?_⟩, ?_⟩
      · cases hq : e.sku; simp
      · cases hq : e.sku; simp
end Go.Proofs.Ytmhdhedjeaaciaa
