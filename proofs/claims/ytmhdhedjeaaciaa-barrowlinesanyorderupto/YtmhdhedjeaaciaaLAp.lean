/- The lines of a list add up, plain. -/
import Derived.Test.YtmhdhedjeaaciaaLTo
namespace Go.Proofs.Ytmhdhedjeaaciaa
open Go.RowKit

/-- a sum over entries -/
def sq (q : En → Int) : List En → Int
  | [] => 0
  | e :: r => q e + sq q r
def qOf (e : En) : Int := e.qty
def oneOf (_ : En) : Int := 1
theorem sq_qty (L : List En) : sq qOf L = ttl L := by
  induction L with
  | nil => rfl
  | cons a L ih => simp only [sq, ttl, ih, qOf]
theorem sq_one (L : List En) : sq oneOf L = L.length := by
  induction L with
  | nil => rfl
  | cons a L ih => simp only [sq, ih, oneOf, List.length_cons]; omega
theorem fold_qty (L : List En) : ∀ l : Ln, (L.foldl addL l).qty = l.qty + sq qOf L ∧ (L.foldl addL l).parts = l.parts + sq oneOf L := by
  induction L with
  | nil => intro l; simp [sq]
  | cons a L ih => intro l; have := ih (addL l a); simp only [List.foldl_cons, sq, addL, qOf, oneOf] at this ⊢; omega
theorem line_sums (L : List En) (s : ByteArray) : (lineOf L s).qty = sq qOf (ofS L s) ∧ (lineOf L s).parts = sq oneOf (ofS L s) := by
  have := fold_qty (ofS L s) ln0
  unfold lineOf
  simp only [ln0] at this ⊢
  omega
/-- over several SKUs -/
def sk (q : En → Int) (L : List En) : List ByteArray → Int
  | [] => 0
  | s :: K => sq q (ofS L s) + sk q L K
theorem ofS_same (e : En) (L : List En) (s : ByteArray) (h : e.sku = s) : ofS (e :: L) s = e :: ofS L s := by
  have : eqS e.sku s = true := (eqS_iff _ _).2 h
  simp [ofS, this]
theorem ofS_miss (e : En) (L : List En) (s : ByteArray) (h : e.sku ≠ s) : ofS (e :: L) s = ofS L s := by
  have : eqS e.sku s = false := (eqS_no _ _).2 h
  simp [ofS, this]
theorem sk_out (q : En → Int) (e : En) (L : List En) (K : List ByteArray) (h : e.sku ∉ K) : sk q (e :: L) K = sk q L K := by
  induction K with
  | nil => rfl
  | cons s K ih =>
    simp only [sk, ih (fun hk => h (by simp [hk])), ofS_miss e L s (fun hs => h (by simp [hs]))]
theorem sk_in (q : En → Int) (e : En) (L : List En) (K : List ByteArray) (h : K.Nodup) (hk : e.sku ∈ K) : sk q (e :: L) K = sk q L K + q e := by
  induction K with
  | nil => cases hk
  | cons s K ih =>
    have hn := List.nodup_cons.1 h
    by_cases hs : e.sku = s
    · simp only [sk, ofS_same e L s hs, sk_out q e L K (by rw [hs]; exact hn.1), sq]; omega
    · have h2 : e.sku ∈ K := by
        rcases List.mem_cons.1 hk with h | h
        · exact absurd h hs
        · exact h
      simp only [sk, ofS_miss e L s hs, ih hn.2 h2]; omega
theorem sk_all (q : En → Int) (L : List En) (K : List ByteArray) (h : K.Nodup) (hc : ∀ e ∈ L, e.sku ∈ K) : sk q L K = sq q L := by
  induction L with
  | nil =>
    clear hc
    induction K with
    | nil => rfl
    | cons s K ih => simp only [sk, ih (List.nodup_cons.1 h).2]; rfl
  | cons e L ih =>
    rw [sk_in q e L K h (hc e (by simp)), ih (fun x hx => hc x (by simp [hx]))]
    simp only [sq]; omega
/-- the sums over lines -/
def qs : List Ln → Int
  | [] => 0
  | l :: R => l.qty + qs R
def ps : List Ln → Int
  | [] => 0
  | l :: R => l.parts + ps R
theorem qs_append (A B : List Ln) : qs (A ++ B) = qs A + qs B := by
  induction A with
  | nil => simp [qs]
  | cons a A ih => simp only [List.cons_append, qs, ih]; omega
theorem ps_append (A B : List Ln) : ps (A ++ B) = ps A + ps B := by
  induction A with
  | nil => simp [ps]
  | cons a A ih => simp only [List.cons_append, ps, ih]; omega
theorem sums_sk (L : List En) (R : List Ln) (h : ∀ l ∈ R, l = lineOf L l.sku) : qs R = sk qOf L (R.map (·.sku)) ∧ ps R = sk oneOf L (R.map (·.sku)) := by
  induction R with
  | nil => exact ⟨rfl, rfl⟩
  | cons l R ih =>
    have hl := h l (by simp)
    have h2 := ih (fun x hx => h x (by simp [hx]))
    have h3 := line_sums L l.sku
    rw [← hl] at h3
    simp only [qs, ps, List.map_cons, sk, h2, h3]
    exact ⟨trivial, trivial⟩
/-- what holds of the lines of a list in form -/
structure Lay (L : List En) (R : List Ln) : Prop where
  self : ∀ l ∈ R, l = lineOf L l.sku
  inL : ∀ l ∈ R, ∃ e ∈ L, e.sku = l.sku
  pos : ∀ l ∈ R, 1 ≤ l.parts ∧ 1 ≤ l.qty
  rise : ∀ i j, i < j → j < R.length → (R.getD i ln0).sku.data.toList < (R.getD j ln0).sku.data.toList
  q : qs R = ttl L
  p : ps R = L.length
theorem ofS_pos (L : List En) (e : En) (he : e ∈ L) : 0 < (ofS L e.sku).length := List.length_pos_of_mem (ofS_mem.2 ⟨he, rfl⟩)
theorem lay_of {L : List En} {R : List Ln} {er : Int} (hc : chk L = 0) (h : LinesOf L R er) : Lay L R := by
  rcases h with ⟨h, _⟩ | ⟨_, _, hr, hm⟩
  · exact absurd hc h
  · have hin : ∀ l ∈ R, ∃ e ∈ L, e.sku = l.sku ∧ l = lineOf L e.sku := fun l hl => by
      obtain ⟨e, he, rfl⟩ := (hm l).1 hl
      exact ⟨e, he, (line_sku L e he).symm, rfl⟩
    have hself : ∀ l ∈ R, l = lineOf L l.sku := fun l hl => by
      obtain ⟨e, _, h1, h2⟩ := hin l hl
      rw [← h1]; exact h2
    have hnd : (R.map (·.sku)).Nodup := by
      refine List.pairwise_map.2 (hr.imp (fun {a b} hab e => ?_))
      rw [e] at hab
      exact List.lt_irrefl _ hab
    have hcov : ∀ e ∈ L, e.sku ∈ R.map (·.sku) := fun e he => List.mem_map.2 ⟨lineOf L e.sku, (hm _).2 ⟨e, he, rfl⟩, line_sku L e he⟩
    have hs := sums_sk L R hself
    refine ⟨hself, fun l hl => let ⟨e, he, h1, _⟩ := hin l hl; ⟨e, he, h1⟩, fun l hl => ?_, fun i j hij hj => ?_, ?_, ?_⟩
    · obtain ⟨e, he, _, rfl⟩ := hin l hl
      have h1 := fold_bd (ofS L e.sku) (ofS_ok (chk_all hc) e.sku) ln0
      have h2 := ofS_pos L e he
      unfold lineOf
      simp only [ln0] at h1 ⊢
      omega
    · have e1 : R.getD i ln0 = R[i]'(by omega) := by simp [List.getD, show i < R.length by omega]
      have e2 : R.getD j ln0 = R[j] := by simp [List.getD, hj]
      rw [e1, e2]
      exact List.pairwise_iff_getElem.1 hr i j (by omega) hj hij
    · rw [hs.1, sk_all qOf L _ hnd hcov, sq_qty]
    · rw [hs.2, sk_all oneOf L _ hnd hcov, sq_one]
theorem sums_le {R : List Ln} (h : ∀ l ∈ R, 1 ≤ l.parts ∧ 1 ≤ l.qty) (k : Nat) : 0 ≤ qs (R.take k) ∧ qs (R.take k) ≤ qs R ∧ 0 ≤ ps (R.take k) ∧ ps (R.take k) ≤ ps R := by
  have key : ∀ S : List Ln, (∀ l ∈ S, 1 ≤ l.parts ∧ 1 ≤ l.qty) → 0 ≤ qs S ∧ 0 ≤ ps S := by
    intro S hS
    induction S with
    | nil => simp [qs, ps]
    | cons a S ih =>
      have h1 := hS a (by simp)
      have h2 := ih (fun l hl => hS l (by simp [hl]))
      simp only [qs, ps]; omega
  have h1 := key (R.take k) (fun l hl => h l (List.mem_of_mem_take hl))
  have h2 := key (R.drop k) (fun l hl => h l (List.mem_of_mem_drop hl))
  have e1 : qs R = qs (R.take k) + qs (R.drop k) := by rw [← qs_append, List.take_append_drop]
  have e2 : ps R = ps (R.take k) + ps (R.drop k) := by rw [← ps_append, List.take_append_drop]
  omega
/-- an entry's own line -/
theorem line_ge {L : List En} (hc : chk L = 0) (e : En) (he : e ∈ L) : e.qty ≤ (lineOf L e.sku).qty := by
  rw [(line_sums L e.sku).1]
  have hm : e ∈ ofS L e.sku := ofS_mem.2 ⟨he, rfl⟩
  have ho := ofS_ok (chk_all hc) e.sku
  generalize ofS L e.sku = M at hm ho
  induction M with
  | nil => cases hm
  | cons a M ih =>
    have h1 := ho a (by simp)
    have h2 : AllOk M := fun x hx => ho x (by simp [hx])
    have h3 := ttl_bd M h2
    rw [← sq_qty] at h3
    rcases List.mem_cons.1 hm with rfl | hm
    · simp only [sq, qOf] at *; omega
    · have := ih hm h2
      simp only [sq, qOf] at *; omega
theorem of_ok {L : List En} (hc : chk L = 0) {s : ByteArray} (h : ∃ e ∈ L, e.sku = s) : ofE L s = 0 ∧ lnV L s = lineOf L s := by
  obtain ⟨e, he, rfl⟩ := h
  have h1 : ofE L e.sku = 0 := by unfold ofE; rw [if_pos hc, if_pos (ce_good (chk_ce hc e he))]
  exact ⟨h1, by unfold lnV; rw [if_pos h1]⟩
end Go.Proofs.Ytmhdhedjeaaciaa
