/- THe -/
import Derived.Test.YtehcehhfdhiomaaGreatTv45
import Derived.Test.YtehcehhfdhiomaaGreatTv46
import Derived.Test.YtehcehhfdhiomaaGreatTv28
namespace Go.Proofs.YtehcehhfdhiomaaGreat
open Go.RowKit
theorem rep_lt {z : Int} (h : V.isR z = true) : z.toNat < 16 ∧ 0 ≤ z := by
 have : 0 ≤ z ∧ z < 16 := by simpa [V.isR] using h
 omega
theorem nd_len {α : Type} : ∀ (l m : List α), l.Nodup → (∀ x ∈ l, x ∈ m) → l.length ≤ m.length := by
 classical
 intro l
 induction l with
 | nil => intro m _ _; exact Nat.zero_le _
 | cons x l ih =>
  intro m hn hs
  rw [List.nodup_cons] at hn
  have hx := hs x List.mem_cons_self
  have h1 := ih (m.erase x) hn.2 (fun y hy => (List.mem_erase_of_ne (fun e => by subst e; exact hn.1 hy)).2 (hs y (List.mem_cons_of_mem _ hy)))
  rw [List.length_erase_of_mem hx] at h1
  have h2 := List.length_pos_of_mem hx
  simp only [List.length_cons]
  omega
theorem asc_nodup {L : List K.En} (h : K.Asc L) : L.Nodup := by
 refine List.Pairwise.imp (fun {x y} hxy e => ?_) h
 subst e
 unfold K.ahead at hxy
 simp at hxy
theorem wt_le2 (X : List Pv) (c : Nat) (h : ∀ p ∈ X, p.P.cloud.length ≤ c) : wt X ≤ X.length * (c + 1) := by
 induction X with
 | nil => exact Nat.zero_le _
 | cons p X ih =>
  have h1 := ih (fun q hq => h q (List.mem_cons_of_mem _ hq))
  have h2 := h p List.mem_cons_self
  simp only [wt, List.length_cons]
  rw [Nat.add_mul]
  omega
theorem live_pre {w1 w2 w3 : World} {a b f : Fc} {M : Nat → Int → Prop} (hA : FcU w1 a) (hB : FcU w2 b) (hF : FcOk w3 f) (i : IsF f (fun x => x ∈ a.es ∨ x ∈ b.es) M (fun y => y ∈ plR a.rs ∨ y ∈ plR b.rs)) (hn : f.rn ≤ a.rn + b.rn) : (∀ s, wt (ofS f.rs s) ≤ 8796093022207) ∧ f.rn * (f.an + 1) ≤ 8796093022207 := by
 have ha := hA.rn
 have hb := hB.rn
 have hr : f.rs.length = f.rn := hF.rs.len
 constructor
 ·intro s
  have h1 := wt_le2 (ofS f.rs s) 1048576 (fun p hp => by
   unfold ofS at hp
   obtain ⟨r, hr, rfl⟩ := List.mem_map.1 hp
   have hm : rck r ∈ plR f.rs := List.mem_map.2 ⟨r, (List.mem_filter.1 hr).1, rfl⟩
   rcases (i.rs _).1 hm with h | h
   ·obtain ⟨y, hy, e⟩ := List.mem_map.1 h
    have e2 : y.p.P = r.p.P := congrArg Prod.snd e
    rw [← e2]; exact hA.sm.2 y hy
   ·obtain ⟨y, hy, e⟩ := List.mem_map.1 h
    have e2 : y.p.P = r.p.P := congrArg Prod.snd e
    rw [← e2]; exact hB.sm.2 y hy)
  have h2 : (ofS f.rs s).length ≤ f.rs.length := by unfold ofS; rw [List.length_map]; exact List.length_filter_le _ _
  have h3 : (ofS f.rs s).length * (1048576 + 1) ≤ 419430 * (1048576 + 1) := Nat.mul_le_mul_right _ (by omega)
  omega
 ·have h1 := nd_len f.es (a.es ++ b.es) (asc_nodup (K.chk_asc' i.chk)) (fun x hx => List.mem_append.2 ((i.es x).1 hx))
  rw [List.length_append, hF.es.1, hA.ok.es.1, hB.ok.es.1] at h1
  have h2 := hA.an
  have h3 := hB.an
  have h4 : f.rn * (f.an + 1) ≤ 419430 * 2097153 := Nat.mul_le_mul (by omega) (by omega)
  omega
def bareF (a : Fc) : Fc := ⟨a.ao, a.an, a.ac, a.es, a.p, none, 0, 0, []⟩
attribute [local go_sem ↓] ldP_eq stP_eq ldFa_eq stFa_eq ldD_eq stD_eq bldD_eq K.ld28_eq K.st28_eq
attribute [local go_sem] cells_PV PC_size cells_FaV FaC_size zero_FaZ cells_RV RC_size zero_RC run_bldD K.zero_EC K.cells_EV K.EC_size
end Go.Proofs.YtehcehhfdhiomaaGreat
