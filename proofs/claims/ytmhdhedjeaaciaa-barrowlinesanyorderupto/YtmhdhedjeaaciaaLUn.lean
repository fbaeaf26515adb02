/- Union and the reference's Union: their contracts. -/
import Derived.Test.YtmhdhedjeaaciaaLCct
import Derived.Test.YtmhdhedjeaaciaaLSome
import Derived.Test.YtmhdhedjeaaciaaLUp
namespace Go.Proofs.Ytmhdhedjeaaciaa
open Go.RowKit Go.Lib
attribute [local go_sem ↓] ld28_eq st28_eq
attribute [local go_sem] zero_EC cells_EV EC_size fold_EC

/-- what Union answers -/
def UnionOf (A B R : List En) (er : Int) : Prop := (¬ (chk A = 0 ∧ chk B = 0) ∧ R = [] ∧ er = 1) ∨ ((chk A = 0 ∧ chk B = 0) ∧ Settled (A ++ B) R er)
theorem UnionOf.unique {A B R R' : List En} {e e' : Int} (h : UnionOf A B R e) (h' : UnionOf A B R' e') : R = R' ∧ e = e' := by
  rcases h with ⟨a, b, c⟩ | ⟨a, b⟩
  · rcases h' with ⟨_, b', c'⟩ | ⟨a', _⟩
    · exact ⟨b.trans b'.symm, c.trans c'.symm⟩
    · exact absurd a' a
  · rcases h' with ⟨a', _⟩ | ⟨_, b'⟩
    · exact absurd a a'
    · exact b.unique b'
def GivesU (w w' : World) (e : Ending) (A B : List En) : Prop := ∃ ao n c R er, e = .returned (.tuple #[.slice ao n c, .int .i64 er]) ∧ ESrc w' ao n c R ∧ Below w.heap.size w w' ∧ UnionOf A B R er
theorem unionBad {w w' : World} {A B : List En} (h : ¬ (chk A = 0 ∧ chk B = 0)) (hb : Below w.heap.size w w') : GivesU w w' (.returned (.tuple #[.slice none 0 0, .int .i64 1])) A B :=
  ⟨none, 0, 0, [], 1, rfl, ESrc.none _, hb, Or.inl ⟨h, rfl, rfl⟩⟩
set_option maxRecDepth 100000 in
set_option maxHeartbeats 4000000 in
theorem union_any (ao bo : Option Addr) (n cap m cap' : Nat) (A B : List En) (w : World) (hS : ESrc w ao n cap A) (hR : ESrc w bo m cap' B) :
    Calls Try.prog 19 #[.slice ao n cap, .slice bo m cap'] w fun e w' => GivesU w w' e A B := by
  have HS := hide hS
  have HR := hide hR
  clear hS hR
  obtain ⟨p, Hp⟩ : ∃ p, Hid (chk A = p) := ⟨_, rfl⟩
  obtain ⟨q, Hq⟩ : ∃ q, Hid (chk B = q) := ⟨_, rfl⟩
  by_cases h1 : p = 0
  · by_cases h2 : q = 0
    · have HA : Hid (chk A = 0 ∧ chk B = 0) := ⟨Hp.out.trans h1, Hq.out.trans h2⟩
      have d1 : (p != 0) = false := by simpa using h1
      have d2 : (q != 0) = false := by simpa using h2
      have hlen : n + m ≤ 3518437208883 := by
        have l1 := chk_len HA.out.1
        have l2 := chk_len HA.out.2
        rw [HS.out.1] at l1
        rw [HR.out.1] at l2
        omega
      clear h1 h2
      go_enter Try.func19, Try.ntmps19
      go_wp2_with fail
      refine (lcheck_any ao n cap A _ HS.out).mono ?_
      rintro e w1 ⟨rfl, b1⟩
      rw [Hp.out]
      have HB1 := hide b1
      clear b1
      go_wp2_with fail
      refine (lcheck_any bo m cap' B _ (HR.out.below HB1.out)).mono ?_
      rintro e w2 ⟨rfl, b2⟩
      rw [Hq.out]
      have HB2 := hide (HB1.out.trans (b2.mono HB1.out.size))
      clear b2
      go_wp2_with fail
      have B3 := below_new w2 (.cells #[.slice ao n cap, .slice bo m cap'] 22)
      have k0 : (w2.alloc (.cells #[.slice ao n cap, .slice bo m cap'] 22)).cell? ⟨w2.heap.size, 0, none⟩ = some (.slice ao n cap) := by simp
      have k1 : (w2.alloc (.cells #[.slice ao n cap, .slice bo m cap'] 22)).cell? ⟨w2.heap.size, 1, none⟩ = some (.slice bo m cap') := by simp
      have HB3 := hide (HB2.out.trans (B3.mono HB2.out.size))
      refine (concat_any w2.heap.size ao bo n cap m cap' A B _ (HS.out.below HB3.out) (HR.out.below HB3.out) k0 k1 hlen).mono ?_
      rintro e w4 ⟨a4, c4, rfl, O4⟩
      have HO4 := hide O4
      have HB4 := hide (HB3.out.trans (O4.below.mono HB3.out.size))
      have HZ : Hid (w.heap.size ≤ (w2.alloc (.cells #[.slice ao n cap, .slice bo m cap'] 22)).heap.size) := HB3.out.size
      have hsk : ∀ e ∈ A ++ B, e.sku.size ≤ maxLen := fun e he => by
        rcases List.mem_append.1 he with h | h
        · exact HS.out.2.2.2.1 e h
        · exact HR.out.2.2.2.1 e h
      have HSK := hide hsk
      have HLL : Hid ((A ++ B).length = n + m) := by show _ = _; rw [List.length_append, HS.out.1, HR.out.1]
      clear O4 B3 k0 k1 hsk
      cases a4 with
      | none =>
        obtain ⟨S4, _⟩ := HO4.out.src HSK.out (by rw [HLL.out]; exact hlen)
        obtain ⟨e1, rfl⟩ := S4.2.1 rfl
        have HE : Hid (A ++ B = []) := List.eq_nil_of_length_eq_zero e1
        have hnm : n + m = 0 := by rw [← HLL.out]; exact e1
        rw [hnm]
        clear S4 e1
        go_wp2_with fail
        refine (rising0 none 0 _).mono ?_
        rintro e w6 ⟨rfl, b6⟩
        have HN : Hid (GivesU w w6 (.returned (.tuple #[.slice none 0 0, .int .i64 0])) A B) := ⟨none, 0, 0, [], 0, rfl, ESrc.none _, HB4.out.trans (b6.mono HB4.out.size), Or.inr ⟨HA.out, by rw [HE.out]; exact settled_nil⟩⟩
        clear b6
        go_wp2_with fail
        go_ret2
        exact HN.out
      | some a4 =>
        obtain ⟨M4, hc1, hc2, hbb⟩ := HO4.out.mr
        have HM4 := hide M4
        have HC1 : Hid (n + m ≤ c4) := by show _ ≤ _; rw [← HLL.out]; exact hc1
        have HC2 := hide hc2
        have HBB : Hid (w.heap.size ≤ a4.block) := Nat.le_trans HZ.out hbb
        clear M4 hc1 hc2 hbb
        go_wp2_with fail
        refine (rising_any a4 c4 (n + m) (A ++ B).toArray _ HM4.out (by rw [List.size_toArray]; exact HLL.out) hlen HC1.out HC2.out (by simpa using HSK.out)).mono ?_
        rintro e w6 ⟨a6, n6, c6, R6, er, rfl, S6, b6, f6, t6⟩
        have HN : Hid (GivesU w w6 (.returned (.tuple #[.slice a6 n6 c6, .int .i64 er])) A B) :=
          ⟨a6, n6, c6, R6, er, rfl, S6, HB4.out.trans (b6.mono HBB.out), Or.inr ⟨HA.out, by simpa using t6⟩⟩
        clear S6 b6 f6 t6
        go_wp2_with fail
        go_ret2
        exact HN.out
    · have HX : Hid (¬ (chk A = 0 ∧ chk B = 0)) := fun h => h2 (Hq.out.symm.trans h.2)
      have d1 : (p != 0) = false := by simpa using h1
      have d2 : (q != 0) = true := by simpa using h2
      clear h1 h2
      go_enter Try.func19, Try.ntmps19
      go_wp2_with fail
      refine (lcheck_any ao n cap A _ HS.out).mono ?_
      rintro e w1 ⟨rfl, b1⟩
      rw [Hp.out]
      have HB1 := hide b1
      clear b1
      go_wp2_with fail
      refine (lcheck_any bo m cap' B _ (HR.out.below HB1.out)).mono ?_
      rintro e w2 ⟨rfl, b2⟩
      rw [Hq.out]
      have HB2 := hide (HB1.out.trans (b2.mono HB1.out.size))
      clear b2
      go_wp2_with fail
      go_ret2
      exact unionBad HX.out HB2.out
  · have HX : Hid (¬ (chk A = 0 ∧ chk B = 0)) := fun h => h1 (Hp.out.symm.trans h.1)
    have d1 : (p != 0) = true := by simpa using h1
    clear h1
    go_enter Try.func19, Try.ntmps19
    go_wp2_with fail
    refine (lcheck_any ao n cap A _ HS.out).mono ?_
    rintro e w1 ⟨rfl, b1⟩
    rw [Hp.out]
    have HB1 := hide b1
    clear b1
    go_wp2_with fail
    go_ret2
    exact unionBad HX.out HB1.out
end Go.Proofs.Ytmhdhedjeaaciaa
