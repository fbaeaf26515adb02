/- word, shape of the reference. -/
import Derived.Test.YtpnnlfhknnnfhaaGreatDoorJPo
namespace Go.Proofs.YtpnnlfhknnnfhaaGreatDoor
open Go.RowKit T Y
variable {w w' : World} {g : Nat}
def stA (p v : Value) : Sem Unit := Instr.storeAt 73 p v
theorem stA_eq (p v : Value) : Instr.storeAt 73 p v = stA p v := rfl
theorem sizeA : (Tryz.prog.info? 73).map (·.size) = some 17 := by kernel_rfl
theorem run_stA {c c' : Array Value} (A : w.heap[g]? = some (.cells c 73 (0, 0))) (hc : c.size = 17) (hc' : c'.size = 17) (h1 : ∀ v ∈ c'.toList, v.oneCell' = true) :
    (stA (.pointer (some ⟨g, 0, none⟩)) (.agg c')).run Tryz.prog w = .ok () (w.setRow g c') := by
  unfold stA
  have h := run_storeCells_from (P := Tryz.prog) g 73 c'.toList 0 c w A (by simp [hc, hc']) h1
  cases hq : Tryz.prog.info? 73 with
  | none => have := sizeA; simp [hq] at this
  | some x =>
    have hs : x.size = 17 := by have := sizeA; simpa [hq] using this
    have e0 : c.toList.drop 17 = [] := List.drop_eq_nil_of_le (by simp [hc])
    simp only [Instr.storeAt, Instr.sureAddr, Sem.run_bind, Sem.run_pure, Result.andThen, storeVar, sizeOf, typeInfo, Value.cells]
    simp at h
    simp [h, hq, hs, hc']
def txs (l : List (List UInt8)) : Array Value := (l.map fun x => Value.string (bs x)).toArray
theorem madeA (w : World) (l : List (List UInt8)) (hl : l.length = 17) (c : Array Value) (hc : c.size = 17) (g : Nat) (hg : w.heap.size = g) : ∃ w' : World, (stA (.pointer (some ⟨g, 0, none⟩)) (.agg (txs l))).run Tryz.prog (w.alloc (.cells c 73)) = .ok () w' ∧ w'.heap[g]? = some (.cells (txs l) 73 (0, 0)) ∧ Below w.heap.size w w' := by
  subst hg
  have hn : (w.alloc (.cells c 73)).heap[w.heap.size]? = some (.cells c 73 (0, 0)) := heap_alloc_new w _
  refine ⟨_, run_stA hn hc (by simp [txs, hl]) ?_, setRow_heap _ _ _ _ _ _ hn, below_setRow (below_new w _) (Nat.le_refl _)⟩
  intro v hv
  simp [txs] at hv
  obtain ⟨a, -, rfl⟩ := hv
  rfl
theorem cellA {l : List (List UInt8)} {T : TypeId} (h : w.heap[g]? = some (.cells (txs l) T (0, 0))) (i : Nat) (hi : i < l.length) : w.cell? ⟨g, i, none⟩ = some (.string (bs (l.getD i []))) := by
  simp [World.cell?, h, txs, List.getD, hi]
attribute [local go_sem ↓] stA_eq
def wrds : List (List UInt8) := shp.map (·.1)
theorem wrds_at : ∀ i, i < 17 → wrds.getD i [] = (shp.getD i ([], [])).1 := by decide
/-- the shape in capital letters -/
def capL (l : List UInt8) : List UInt8 := l.map (· - 32)
def shps : List (List UInt8) := shp.map fun p => capL p.2
theorem shps_at : ∀ i, i < 17 → shps.getD i [] = capL (shp.getD i ([], [])).2 := by decide
set_option maxRecDepth 100000 in
set_option maxHeartbeats 1600000 in
theorem word_any (k : Int) (w : World) : Calls Tryz.prog 23 #[.int .i64 k] w fun e w' => e = .returned (.string (bs (wrdL k))) ∧ Below w.heap.size w w' := by
  obtain ⟨w1, hst, hbx, hbl⟩ := madeA w wrds rfl #[.string ⟨#[]⟩, .string ⟨#[]⟩, .string ⟨#[]⟩, .string ⟨#[]⟩, .string ⟨#[]⟩, .string ⟨#[]⟩, .string ⟨#[]⟩, .string ⟨#[]⟩, .string ⟨#[]⟩, .string ⟨#[]⟩, .string ⟨#[]⟩, .string ⟨#[]⟩, .string ⟨#[]⟩, .string ⟨#[]⟩, .string ⟨#[]⟩, .string ⟨#[]⟩, .string ⟨#[]⟩] rfl w.heap.size rfl
  have hst' : (stA (.pointer (some ⟨w.heap.size, 0, none⟩)) (.agg #[.string ⟨#[111, 112]⟩, .string ⟨#[115, 101, 116]⟩, .string ⟨#[97, 100, 100]⟩, .string ⟨#[114, 101, 109, 111, 118, 101]⟩, .string ⟨#[114, 101, 109, 111, 118, 101, 116, 111]⟩, .string ⟨#[99, 108, 101, 97, 114]⟩, .string ⟨#[99, 108, 101, 97, 114, 116, 111]⟩, .string ⟨#[114, 101, 97, 100]⟩, .string ⟨#[115, 121, 110, 99]⟩, .string ⟨#[102, 117, 108, 108]⟩, .string ⟨#[97, 115, 107]⟩, .string ⟨#[100, 101, 108, 105, 118, 101, 114]⟩, .string ⟨#[99, 111, 112, 121]⟩, .string ⟨#[100, 114, 111, 112]⟩, .string ⟨#[116, 114, 105, 109]⟩, .string ⟨#[114, 101, 115, 116, 97, 114, 116]⟩, .string ⟨#[112, 117, 115, 104]⟩])).run Tryz.prog (w.alloc (.cells #[.string ⟨#[]⟩, .string ⟨#[]⟩, .string ⟨#[]⟩, .string ⟨#[]⟩, .string ⟨#[]⟩, .string ⟨#[]⟩, .string ⟨#[]⟩, .string ⟨#[]⟩, .string ⟨#[]⟩, .string ⟨#[]⟩, .string ⟨#[]⟩, .string ⟨#[]⟩, .string ⟨#[]⟩, .string ⟨#[]⟩, .string ⟨#[]⟩, .string ⟨#[]⟩, .string ⟨#[]⟩] 73)) = .ok () w1 := hst
  have hce : w1.cell? ⟨w.heap.size, kdN k, none⟩ = some (.string (bs (wrdL k))) := by
    have := cellA hbx (kdN k) (kdN_lt k)
    rw [wrds_at _ (kdN_lt k)] at this
    exact this
  have HB := hide hbl
  clear hst hbx hbl
  generalize hR : bs (wrdL k) = R at hce ⊢
  clear hR
  by_cases hin : 1 ≤ k ∧ k ≤ 16
  · obtain ⟨n, rfl⟩ : ∃ n : Nat, k = (n : Int) := ⟨k.toNat, by omega⟩
    have hk : kdN (n : Int) = n := by unfold kdN; split <;> omega
    rw [hk] at hce
    go_enter Tryz.func23, Tryz.ntmps23
    go_wp2_with fail
    go_ret; exact ⟨rfl, HB.out⟩
  · have hk : kdN k = 0 := by unfold kdN; split <;> omega
    rw [hk] at hce
    by_cases hneg : k < 1
    · go_enter Tryz.func23, Tryz.ntmps23
      go_wp2_with fail
      go_ret; exact ⟨rfl, HB.out⟩
    · have hge : 16 < k := by omega
      go_enter Tryz.func23, Tryz.ntmps23
      go_wp2_with fail
      go_ret; exact ⟨rfl, HB.out⟩
set_option maxRecDepth 100000 in
set_option maxHeartbeats 1600000 in
theorem rshape_any (k : Int) (w : World) : Calls Tryz.prog 22 #[.int .i64 k] w fun e w' => e = .returned (.string (bs (capL (fdsL k)))) ∧ Below w.heap.size w w' := by
  obtain ⟨w1, hst, hbx, hbl⟩ := madeA w shps rfl #[.string ⟨#[]⟩, .string ⟨#[]⟩, .string ⟨#[]⟩, .string ⟨#[]⟩, .string ⟨#[]⟩, .string ⟨#[]⟩, .string ⟨#[]⟩, .string ⟨#[]⟩, .string ⟨#[]⟩, .string ⟨#[]⟩, .string ⟨#[]⟩, .string ⟨#[]⟩, .string ⟨#[]⟩, .string ⟨#[]⟩, .string ⟨#[]⟩, .string ⟨#[]⟩, .string ⟨#[]⟩] rfl w.heap.size rfl
  have hst' : (stA (.pointer (some ⟨w.heap.size, 0, none⟩)) (.agg #[.string ⟨#[75]⟩, .string ⟨#[82, 67, 83, 81]⟩, .string ⟨#[82, 67, 83, 81]⟩, .string ⟨#[82, 67, 83]⟩, .string ⟨#[82, 83, 78]⟩, .string ⟨#[82, 67]⟩, .string ⟨#[82, 78]⟩, .string ⟨#[82, 67]⟩, .string ⟨#[82, 84]⟩, .string ⟨#[82, 84]⟩, .string ⟨#[82, 84]⟩, .string ⟨#[78]⟩, .string ⟨#[78]⟩, .string ⟨#[78]⟩, .string ⟨#[78, 81]⟩, .string ⟨#[82]⟩, .string ⟨#[82, 84, 78]⟩])).run Tryz.prog (w.alloc (.cells #[.string ⟨#[]⟩, .string ⟨#[]⟩, .string ⟨#[]⟩, .string ⟨#[]⟩, .string ⟨#[]⟩, .string ⟨#[]⟩, .string ⟨#[]⟩, .string ⟨#[]⟩, .string ⟨#[]⟩, .string ⟨#[]⟩, .string ⟨#[]⟩, .string ⟨#[]⟩, .string ⟨#[]⟩, .string ⟨#[]⟩, .string ⟨#[]⟩, .string ⟨#[]⟩, .string ⟨#[]⟩] 73)) = .ok () w1 := hst
  have hce : w1.cell? ⟨w.heap.size, kdN k, none⟩ = some (.string (bs (capL (fdsL k)))) := by
    have := cellA hbx (kdN k) (kdN_lt k)
    rw [shps_at _ (kdN_lt k)] at this
    exact this
  have HB := hide hbl
  clear hst hbx hbl
  generalize hR : bs (capL (fdsL k)) = R at hce ⊢
  clear hR
  by_cases hin : 1 ≤ k ∧ k ≤ 16
  · obtain ⟨n, rfl⟩ : ∃ n : Nat, k = (n : Int) := ⟨k.toNat, by omega⟩
    have hk : kdN (n : Int) = n := by unfold kdN; split <;> omega
    rw [hk] at hce
    go_enter Tryz.func22, Tryz.ntmps22
    go_wp2_with fail
    go_ret; exact ⟨rfl, HB.out⟩
  · have hk : kdN k = 0 := by unfold kdN; split <;> omega
    rw [hk] at hce
    by_cases hneg : k < 1
    · go_enter Tryz.func22, Tryz.ntmps22
      go_wp2_with fail
      go_ret; exact ⟨rfl, HB.out⟩
    · have hge : 16 < k := by omega
      go_enter Tryz.func22, Tryz.ntmps22
      go_wp2_with fail
      go_ret; exact ⟨rfl, HB.out⟩
end Go.Proofs.YtpnnlfhknnnfhaaGreatDoor
