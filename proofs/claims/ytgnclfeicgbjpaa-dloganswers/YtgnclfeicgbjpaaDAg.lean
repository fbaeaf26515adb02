/- Log and reference say the same; two rows of numbers are the same. -/
import Derived.Test.YtgnclfeicgbjpaaDRg
import Derived.Test.YtgnclfeicgbjpaaDFx
import Derived.Test.YtgnclfeicgbjpaaDOp
namespace Go.Proofs.Ytgnclfeicgbjpaa
open Go.RowKit
variable {w0 w w' w2 : World} {β : Nat × Nat → Option Nat} {al ar lo wo : Option Addr} {gl gr cl cr n lc wc k : Nat} {m nx s : Int} {Z A : List Int}

/-- log and reference say the same -/
structure Ag (m nx s : Int) (k : Nat) (Z A : List Int) : Prop where
  bd : Bd m nx Z
  rb : Rb m s k A
  nx : nx = s + A.length
  z : Z = A.drop k
theorem Ag.first (h : Ag m nx s k Z A) : nx - Z.length = s + k := by
  have := h.rb.k1
  rw [h.nx, h.z, List.length_drop]; omega
theorem Ag.push (h : Ag m nx s k Z A) (x : Int) (hl : A.length < 4400000000000) (hz : Z.length ≤ 64) : ∃ k' : Nat, (k' : Int) = max (k : Int) ((A.length : Int) + 1 - m) ∧ Ag m (nx + 1) s k' (pushed m nx Z x) (A ++ [x]) ∧ (pushed m nx Z x).length ≤ 64 := by
  have h1 := h.rb.k1
  have h2 := h.rb.m0
  have h3 := h.rb.m1
  have h4 := h.rb.s0
  have h5 := h.rb.s1
  have hf := h.first
  have hc := (cutN_le (nx + 1) (Z ++ [x]) (nx + 1 - m)).2
  have hd := (cutN_le (nx + 1) (Z ++ [x]) (nx + 1 - m)).1
  have hzl : Z.length = A.length - k := by rw [h.z, List.length_drop]
  unfold btw at hc
  simp only [List.length_append, List.length_singleton] at hc hd
  have hnx := h.nx
  have e1 : (A ++ [x]).drop k = Z ++ [x] := by rw [List.drop_append_of_le_length (by omega), ← h.z]
  have ep : pushed m nx Z x = (Z ++ [x]).drop (cutN (nx + 1) (Z ++ [x]) (nx + 1 - m)) := rfl
  obtain ⟨c, hcc⟩ : ∃ c, cutN (nx + 1) (Z ++ [x]) (nx + 1 - m) = c := ⟨_, rfl⟩
  rw [hcc] at hc hd ep
  have ek : ((k + c : Nat) : Int) = max (k : Int) ((A.length : Int) + 1 - m) := by push_cast at *; omega
  have ez : pushed m nx Z x = (A ++ [x]).drop (k + c) := by rw [ep, ← List.drop_drop, e1]
  have el : ((pushed m nx Z x).length : Int) = (A.length : Int) + 1 - max (k : Int) ((A.length : Int) + 1 - m) := by
    rw [ez, List.length_drop, List.length_append, List.length_singleton]; omega
  refine ⟨_, ek, ⟨⟨h2, h3, by omega, by omega, by omega⟩, ⟨h2, h3, h4, h5, by omega, by rw [List.length_append, List.length_singleton]; omega, by rw [List.length_append, List.length_singleton]; omega⟩, by rw [List.length_append, List.length_singleton, hnx]; push_cast; omega, ez⟩, by omega⟩
theorem Ag.trim (h : Ag m nx s k Z A) (n : Int) : cutN nx Z n = rcut s k A n ∧ Ag m nx s (k + cutN nx Z n) (Z.drop (cutN nx Z n)) A := by
  have h1 := h.rb.k1
  have hf := h.first
  have hc := (cutN_le nx Z n).2
  have hd := (cutN_le nx Z n).1
  have hzl : Z.length = A.length - k := by rw [h.z, List.length_drop]
  have hnx := h.nx
  unfold btw at hc
  have e : cutN nx Z n = rcut s k A n := by unfold rcut; omega
  refine ⟨e, ⟨h.bd.m0, h.bd.m1, by rw [List.length_drop]; have := h.bd.n0; omega, h.bd.n1, by rw [List.length_drop]; have := h.bd.l; omega⟩, ⟨h.rb.m0, h.rb.m1, h.rb.s0, h.rb.s1, by omega, by omega, h.rb.l⟩, hnx, ?_⟩
  generalize cutN nx Z n = c
  rw [h.z, List.drop_drop]
theorem blk_of {ao : Option Addr} {ad : Addr} (h : ao = some ad) : blk ao = some ad.block := by rw [h]; rfl
theorem Reg.kp {g : Nat} {ao bo : Option Addr} (h : Reg w β) (K : Kp w w' g ao) (N : Nw w ao bo) (x y : Nat × Nat) (hx : β x = some g) (hy : β y = blk ao) (hlt : ∀ ad, bo = some ad → ad.block < w'.heap.size) :
    Reg w' (upd β y (blk bo)) ∧ ∀ z, z ≠ x → z ≠ y → ∀ j, β z = some j → w'.heap[j]? = w.heap[j]? := by
  have h' : Reg w' β := ⟨fun z j e => Nat.lt_of_lt_of_le (h.lt z j e) K.size, h.inj⟩
  refine ⟨h'.put y _ (fun j e => ?_) (fun j e z hz f => ?_), fun z hzx hzy j e => K.block j (h.lt z j e) (fun e2 => hzx (h.inj z x j e (by rw [hx, e2]))) (fun ad ha e2 => hzy (h.inj z y j e (by rw [hy, blk_of ha, e2])))⟩
  · cases bo with
    | none => cases e
    | some ad => have := hlt ad rfl; have : ad.block = j := Option.some.inj e; omega
  · cases bo with
    | none => cases e
    | some ad =>
      have e' : ad.block = j := Option.some.inj e
      rcases N ad rfl with ⟨ad', ha, hb⟩ | hb
      · exact hz (h.inj z y j f (by rw [hy, blk_of ha, hb, e']))
      · have := h.lt z j f; omega
set_option maxRecDepth 100000 in
theorem sameInts_true (ao : Option Addr) (n c : Nat) (Y : List Int) (bo : Option Addr) (m c' : Nat) (w : World) (hY : NSrc w ao n c Y) (hZ : NSrc w bo m c' Y) (hn : n ≤ 9223372036854775807) :
    Calls Try.prog 15 #[.slice ao n c, .slice bo m c'] w fun e w' => e = .returned (.bool true) ∧ Below w.heap.size w w' := by
  obtain rfl : n = m := by rw [← hY.len, ← hZ.len]
  have HY := hide hY
  have HZ := hide hZ
  clear hY hZ
  go_enter Try.func15, Try.ntmps15
  go_wp2_with fail
  go_loopw [5] (fun i wr => ∃ k : Nat, k ≤ n ∧ i = .int .i64 k ∧ Hid (Below w.heap.size w wr)) (fun i _ => n - (intOf i).toNat)
  case atStart => exact ⟨0, Nat.zero_le _, rfl, Below.refl _ _⟩
  case round =>
    obtain ⟨k, hk, rfl, HB⟩ := hrel
    by_cases hlt : k < n
    · obtain ⟨ad, rfl, c1⟩ := (HY.out.below HB.out).at k hlt
      obtain ⟨bd, rfl, c2⟩ := (HZ.out.below HB.out).at k hlt
      obtain ⟨z, hz⟩ : ∃ z, Y.getD k 0 = z := ⟨_, rfl⟩
      rw [hz] at c1 c2
      clear hz
      go_wp2_with fail
      go_quiet (fail)
      have HB' := hide (HB.out.trans ((below_drewN wr nq).mono HB.out.size))
      clear HB
      go_wp2_with fail
      go_roundw
      case rel => exact ⟨k + 1, by omega, by go_num, HB'⟩
      case measure => simp [intOf]; omega
    · go_wp2_with fail
      go_ret
      exact ⟨rfl, HB.out⟩
end Go.Proofs.Ytgnclfeicgbjpaa
