/- LinesUnions: the law's walk. -/
import Derived.Test.YtagkcfnmhfihlaaRu
import Derived.Test.YtagkcfnmhfihlaaSLaw
import Derived.Deep.RegionWith
namespace Go.Proofs.Ytagkcfnmhfihlaa
open Go.RowKit Go.Lib

theorem ESrc.drop {w : World} {ad : Addr} {m c : Nat} {L : List En} (h : ESrc w (some ad) m c L) (k : Nat) (hk : k ≤ m) : ESrc w (some (ad.add (k * 4))) (m - k) (c - k) (L.drop k) := by
  refine ⟨by rw [List.length_drop, h.1], fun e => (by cases e), fun ad' ha t ht => ?_, fun e he => h.2.2.2.1 e (List.mem_of_mem_drop he), by have := h.2.2.2.2; omega⟩
  obtain rfl := Option.some.inj ha
  have := h.2.2.1 ad rfl (k + t) (by omega)
  rw [add_add, ← Nat.add_mul]
  rwa [show (L.drop k).getD t en0 = L.getD (k + t) en0 by simp [List.getD, List.getElem?_drop]]
theorem some_union : UnionOf (someL.take 1) (someL.drop 1) someL 0 := by
  have ha : Asc someL := by
    refine List.pairwise_cons.2 ⟨fun y hy => ?_, List.pairwise_cons.2 ⟨fun y hy => ?_, List.pairwise_singleton _ _⟩⟩
    · simp at hy; rcases hy with rfl | rfl <;> rfl
    · simp at hy; subst hy; rfl
  refine Or.inr ⟨⟨by decide +kernel, by decide +kernel⟩, ?_⟩
  rw [List.take_append_drop]
  exact Or.inr ⟨asc_noclash ha (fun _ => Iff.rfl), rfl, ha, fun _ => Iff.rfl⟩
/-- some: three entries in a block of their own -/
def Gives4 (w w' : World) (e : Ending) : Prop := ∃ g : Nat, e = .returned (.slice (some ⟨g, 0, none⟩) 3 3) ∧ ESrc w' (some ⟨g, 0, none⟩) 3 3 someL ∧ Below w.heap.size w w'
set_option maxHeartbeats 800000 in
theorem some4_any (w : World) : Calls Try.prog 8 #[] w fun e w' => Gives4 w w' e := by
  go_enter Try.func8, Try.ntmps8
  go_wp2_with fail
  refine (entry_lit 0 3 ⟨#[65]⟩ 5 _).mono ?_
  rintro x w1 ⟨rfl, b1⟩
  go_wp2_with fail
  refine (entry_lit 1 1 ⟨#[66]⟩ 2 _).mono ?_
  rintro x w2 ⟨rfl, b2⟩
  go_wp2_with fail
  refine (entry_lit 1 4 ⟨#[65]⟩ 1 _).mono ?_
  rintro x w3 ⟨rfl, b3⟩
  have HB := hide ((b1.trans (b2.mono b1.size)).trans (b3.mono (b1.trans (b2.mono b1.size)).size))
  have HS := hide (lit_esrc w3 someL #[.int .i64 0, .int .i64 3, .string ⟨#[65]⟩, .int .i64 5, .int .i64 1, .int .i64 1, .string ⟨#[66]⟩, .int .i64 2, .int .i64 1, .int .i64 4, .string ⟨#[65]⟩, .int .i64 1] rfl 29 3 rfl someL_sku (by omega))
  clear b1 b2 b3
  go_wp2_with fail
  go_ret
  exact ⟨_, rfl, HS.out, HB.out.trans ((below_new _ _).mono HB.out.size)⟩
set_option maxRecDepth 100000 in
set_option maxHeartbeats 8000000 in
theorem unions_any (ao bo : Option Addr) (n cap m cap' : Nat) (A B : List En) (v2 v3 v4 v5 v6 v7 : Value) (w : World) (hS : ESrc w ao n cap A) (hR : ESrc w bo m cap' B) :
    Calls Try.prog 4 #[.agg #[.slice ao n cap, .slice bo m cap', v2, v3, v4, v5, v6, v7]] w fun y w' => y = .returned (.bool true) ∧ Below w.heap.size w w' := by
  have HS := hide hS
  have HR := hide hR
  have HB0 := hide (below_new w (.cells #[.slice ao n cap, .slice bo m cap', v2, v3, v4, v5, v6, v7] 41))
  obtain ⟨w0, Hw0⟩ : ∃ w0, Hid (w.alloc (.cells #[.slice ao n cap, .slice bo m cap', v2, v3, v4, v5, v6, v7] 41) = w0) := ⟨_, rfl⟩
  have HC0 : Hid (w0.cell? ⟨w.heap.size, 0, none⟩ = some (.slice ao n cap)) := by rw [← Hw0.out]; simp [Hid]
  have HC1 : Hid (w0.cell? ⟨w.heap.size, 1, none⟩ = some (.slice bo m cap')) := by rw [← Hw0.out]; simp [Hid]
  rw [Hw0.out] at HB0
  clear hS hR
  go_enter Try.func4, Try.ntmps4
  go_wp2_with fail
  rw [Hw0.out]
  go_region_with (first
    | (go_at_call 8
       refine (some4_any _).mono ?_
       first
         | (have T0 := S0
            rintro y w2 ⟨g2, rfl, S2, b2⟩
            have S1 := hide (S0.out.below b2)
            have B2 := hide (B1.out.trans (b2.mono B1.out.size))
            have S3 := hide S2
            clear S2 b2 S0 B1 T0)
         | (rintro y w1 ⟨g1, rfl, S, b1⟩
            have S0 := hide S
            have B1 := hide b1
            clear S b1))
    | (go_at_call 12
       refine (union_any _ _ _ _ _ _ (someL.take 1) (someL.drop 1) _ (by first | exact S1.out.take 1 (by omega) ⟨_, rfl⟩ | exact S3.out.take 1 (by omega) ⟨_, rfl⟩) (by first | exact S1.out.drop 1 (by omega) | exact S3.out.drop 1 (by omega))).mono ?_
       rintro y w3 ⟨a4, n4, c4, R4, er4, rfl, S4, b4, t4⟩
       obtain ⟨rfl, rfl⟩ := t4.unique some_union
       have S5 := hide S4
       have B5 := hide (B2.out.trans (b4.mono B2.out.size))
       clear S4 b4 t4 S1 S3 B2))
  have HB5 : Hid (Below w0.heap.size w0 w3) := (below_drew1 w0).trans B5.out
  clear B5
  go_wp2_with fail
  refine (some4_any _).mono ?_
  rintro y w6 ⟨g6, rfl, S6, b6⟩
  have HS6 := hide S6
  have HS5 := hide (S5.out.below b6)
  have HB6 := hide (HB5.out.trans (b6.mono HB5.out.size))
  clear S6 b6
  go_wp2_with fail
  refine (same_any a4 (some ⟨g6, 0, none⟩) n4 c4 3 3 _ _ _ HS5.out HS6.out rfl).mono ?_
  rintro y w7 ⟨rfl, b7⟩
  have HB7 := hide (HB6.out.trans (b7.mono HB6.out.size))
  have HW7 := hide (HB0.out.trans (HB7.out.mono HB0.out.size))
  have k0 : w7.cell? ⟨w.heap.size, 0, none⟩ = some (.slice ao n cap) := (HB7.out.cell (World.block_lt_of_cell? _ _ HC0.out)).trans HC0.out
  have k1 : w7.cell? ⟨w.heap.size, 1, none⟩ = some (.slice bo m cap') := (HB7.out.cell (World.block_lt_of_cell? _ _ HC1.out)).trans HC1.out
  clear b7 HB5 HB6 HS5 HS6 S5
  go_wp2_with fail
  refine (refUnion_any ao bo n cap m cap' A B _ (HS.out.below HW7.out) (HR.out.below HW7.out)).mono ?_
  rintro y w8 ⟨a8, n8, c8, R8, er8, rfl, S8, b8, t8⟩
  have HS8 := hide S8
  have HT8 := hide t8
  have HW8 := hide (HW7.out.trans (b8.mono HW7.out.size))
  have HB8 := hide (HB7.out.trans (b8.mono HB7.out.size))
  clear S8 b8 t8 k0 k1
  have k0 : w8.cell? ⟨w.heap.size, 0, none⟩ = some (.slice ao n cap) := (HB8.out.cell (World.block_lt_of_cell? _ _ HC0.out)).trans HC0.out
  have k1 : w8.cell? ⟨w.heap.size, 1, none⟩ = some (.slice bo m cap') := (HB8.out.cell (World.block_lt_of_cell? _ _ HC1.out)).trans HC1.out
  go_wp2_with fail
  refine (union_any ao bo n cap m cap' A B _ (HS.out.below HW8.out) (HR.out.below HW8.out)).mono ?_
  rintro y w9 ⟨a9, n9, c9, R9, er9, rfl, S9, b9, t9⟩
  obtain ⟨rfl, rfl⟩ := t9.unique HT8.out
  have HS9 := hide S9
  have HS9' := hide (HS8.out.below b9)
  have HW9 := hide (HW8.out.trans (b9.mono HW8.out.size))
  have hee : (er9 == er9) = true := by simp
  clear S9 b9 t9 k0 k1
  go_wp2_with fail
  refine (same_any a9 a8 n9 c9 n8 c8 _ _ _ HS9.out HS9'.out rfl).mono ?_
  rintro y w10 ⟨rfl, b10⟩
  have HW10 := hide (HW9.out.trans (b10.mono HW9.out.size))
  clear b10
  go_wp2_with fail
  go_ret
  exact ⟨rfl, HW10.out⟩
end Go.Proofs.Ytagkcfnmhfihlaa
