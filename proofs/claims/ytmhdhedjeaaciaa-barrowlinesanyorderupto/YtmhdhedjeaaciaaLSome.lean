/- entry, some: their contracts. -/
import Derived.Test.YtmhdhedjeaaciaaLRChk
namespace Go.Proofs.Ytmhdhedjeaaciaa
open Go.RowKit

theorem res28 {fn : Func} {p : Tmp} {w : World} {g : Nat} {T : TypeId} {e : En} (h : fn.results = #[.cell p 40]) {tmps : Array Value} (hp : tmps.getD p undef = .pointer (some ⟨g, 0, none⟩)) (A : Box w g T e) :
    (results fn tmps).run Try.prog w = .ok (EV e) w := by
  have hl := run_lv28 A.at
  simp only [results, h]
  rw [Array.getD_eq_getD_getElem?] at hp
  simp [hp, asAddr, hl]
theorem entry_any (r m : Int) (s : ByteArray) (q : Int) (w : World) : Calls Try.prog 45 #[.int .i64 r, .int .i64 m, .string s, .int .i64 q] w fun e w' => e = .returned (EV ⟨r, m, s, q⟩) ∧ Below w.heap.size w w' := by
  have HX := hide (box_new w 40 ⟨r, m, s, q⟩)
  have HB := hide (below_new w (.cells (EC ⟨r, m, s, q⟩) 40))
  go_enter Try.func45, Try.ntmps45
  go_wp2_with fail
  exact bodyPost_ret (res28 Try.results45 rfl HX.out) rfl ⟨rfl, HB.out⟩
theorem entry_lit (r m : Int) (s : ByteArray) (q : Int) (w : World) : Calls Try.prog 45 #[.int .i64 r, .int .i64 m, .string s, .int .i64 q] w fun e w' => e = .returned (.agg #[.int .i64 r, .int .i64 m, .string s, .int .i64 q]) ∧ Below w.heap.size w w' := entry_any r m s q w
abbrev bA : ByteArray := ⟨#[65]⟩
abbrev bB : ByteArray := ⟨#[66]⟩
def someL : List En := [⟨0, 3, bA, 5⟩, ⟨1, 1, bB, 2⟩, ⟨1, 4, bA, 1⟩]
/-- a list is handed back, new; old memory stands -/
def GivesE (w w' : World) (e : Ending) (L : List En) : Prop := ∃ ao n c, e = .returned (.slice ao n c) ∧ ESrc w' ao n c L ∧ Below w.heap.size w w' ∧ ∀ ad, ao = some ad → w.heap.size ≤ ad.block
/-- a literal -/
theorem lit_esrc (w : World) (L : List En) (C : Array Value) (hC : C = (L.map (fun e => (EC e).toList)).flatten.toArray) (T : TypeId) (n : Nat) (hn : L.length = n) (hs : ∀ e ∈ L, e.sku.size ≤ maxLen) (hm : n ≤ 3518437208883) :
    ESrc (w.alloc (.cells C T)) (some ⟨w.heap.size, 0, none⟩) n n L := by
  subst hC hn
  have key : ∀ (L : List En) (t j : Nat), t < L.length → j < 4 → ((L.map (fun e => (EC e).toList)).flatten)[t * 4 + j]? = (EC (L.getD t en0)).toList[j]? := by
    intro L
    induction L with
    | nil => intro t j ht; simp at ht
    | cons a L ih =>
      intro t j ht hj
      cases t with
      | zero => rw [List.map_cons, List.flatten_cons, List.getElem?_append_left (by simp [EC]; omega)]; simp [List.getD]
      | succ t =>
        rw [List.map_cons, List.flatten_cons, List.getElem?_append_right (by simp [EC]; omega)]
        have h := ih t j (by simpa using ht) hj
        have e4 : (t + 1) * 4 + j - (EC a).toList.length = t * 4 + j := by simp [EC]; omega
        rw [e4, h]; simp [List.getD]
  have cell : ∀ t j, t < L.length → j < 4 → (w.alloc (.cells (L.map (fun e => (EC e).toList)).flatten.toArray T)).cell? ⟨w.heap.size, t * 4 + j, none⟩ = (EC (L.getD t en0)).toList[j]? := by
    intro t j ht hj
    rw [World.cell?_alloc_new, List.getElem?_toArray, key L t j ht hj]
  refine ⟨rfl, fun h => (by cases h), fun ad h t ht => ?_, hs, hm⟩
  obtain rfl := Option.some.inj h
  refine ⟨?_, ?_, ?_, ?_⟩
  · rw [Addr.add_lit, Nat.zero_add]; exact cell t 0 ht (by omega)
  · rw [Addr.add_lit, Addr.add_lit, Nat.zero_add]; exact cell t 1 ht (by omega)
  · rw [Addr.add_lit, Addr.add_lit, Nat.zero_add]; exact cell t 2 ht (by omega)
  · rw [Addr.add_lit, Addr.add_lit, Nat.zero_add]; exact cell t 3 ht (by omega)
theorem someL_sku : ∀ e ∈ someL, e.sku.size ≤ maxLen := by
  have hA : bA.size ≤ maxLen := by unfold maxLen; have : bA.size = 1 := rfl; omega
  have hB : bB.size ≤ maxLen := by unfold maxLen; have : bB.size = 1 := rfl; omega
  intro e he; simp only [someL, List.mem_cons, List.not_mem_nil, or_false] at he; rcases he with rfl | rfl | rfl
  · exact hA
  · exact hB
  · exact hA
set_option maxHeartbeats 800000 in
theorem some_any (w : World) : Calls Try.prog 28 #[] w fun e w' => GivesE w w' e someL := by
  go_enter Try.func28, Try.ntmps28
  go_wp2_with fail
  refine (entry_lit 0 3 ⟨#[65]⟩ 5 _).mono ?_
  rintro x w1 ⟨rfl, b1⟩
  go_wp2_with fail
  refine (entry_lit 1 1 ⟨#[66]⟩ 2 _).mono ?_
  rintro x w2 ⟨rfl, b2⟩
  go_wp2_with fail
  refine (entry_lit 1 4 ⟨#[65]⟩ 1 _).mono ?_
  rintro x w3 ⟨rfl, b3⟩
  have HB := hide ((b1.trans (b2.mono b1.size)).trans (b3.mono (b1.trans (b2.mono b1.size)).size))
  have HS := hide (lit_esrc w3 someL #[.int .i64 0, .int .i64 3, .string ⟨#[65]⟩, .int .i64 5, .int .i64 1, .int .i64 1, .string ⟨#[66]⟩, .int .i64 2, .int .i64 1, .int .i64 4, .string ⟨#[65]⟩, .int .i64 1] rfl 40 3 rfl someL_sku (by omega))
  clear b1 b2 b3
  go_wp2_with fail
  go_ret
  exact ⟨_, _, _, rfl, HS.out, HB.out.trans ((below_new _ _).mono HB.out.size), fun ad h => by obtain rfl := Option.some.inj h; exact HB.out.size⟩
end Go.Proofs.Ytmhdhedjeaaciaa
