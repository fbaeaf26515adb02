/- Plain: a number's digits, the last one first; two rows of bytes. -/
import Derived.Test.YtpnnlfhknnnfhaaGreatDoorJPl
import Derived.Laws.BytesArg
import Derived.Laws.OwnMore
namespace Go.Proofs.YtpnnlfhknnnfhaaGreatDoor
open Go.RowKit T Y
variable {w w' w2 : World} {g : Nat}

/-- a number's digits, the last one first -/
def rdI (u : Nat) : List Int := if h : u < 10 then [(48 + u : Int)] else ((48 + u % 10 : Nat) : Int) :: rdI (u / 10)
termination_by u
theorem rdI_lt {u : Nat} (h : u < 10) : rdI u = [(48 + u : Int)] := by unfold rdI; rw [dif_pos h]
theorem rdI_ge {u : Nat} (h : ¬ u < 10) : rdI u = ((48 + u % 10 : Nat) : Int) :: rdI (u / 10) := by rw [rdI, dif_neg h]
theorem rdI_dec (u : Nat) : (rdI u).reverse = nI (Lib.decDigits u) := by
  induction u using Nat.strongRecOn with
  | _ u ih =>
    by_cases h : u < 10
    · rw [rdI_lt h, Lib.decDigits, dif_pos h]
      simp [nI, UInt8.toNat_ofNat']
      omega
    · rw [rdI_ge h, List.reverse_cons, ih (u / 10) (by omega)]
      conv => rhs; rw [Lib.decDigits]
      rw [dif_neg h, nI_app]
      simp [nI, UInt8.toNat_ofNat']
      omega
theorem rdI_len : ∀ (k u : Nat), u < 10 ^ (k + 1) → (rdI u).length ≤ k + 1
  | 0, u, h => by rw [rdI_lt (by omega)]; simp
  | k + 1, u, h => by
    by_cases hu : u < 10
    · rw [rdI_lt hu]; simp
    · rw [rdI_ge hu, List.length_cons]
      have := rdI_len k (u / 10) (by rw [Nat.pow_succ] at h; omega)
      omega
theorem num_dec (u : Nat) : num (u : Int) = Lib.decDigits u := by unfold num Lib.itoa; rw [if_neg (by omega)]; simp
theorem num_minus (u : Nat) (h : 0 < u) : num (-(u : Int)) = 45 :: Lib.decDigits u := by unfold num Lib.itoa; rw [if_pos (by omega)]; simp
/-- a row stays while another one grows -/
theorem stayB {bo dd de : Option Addr} {m c : Nat} {Z : List Int} (h : BR w bo m c Z) (A : Ap w w2 dd de) (hd : ∀ k, blk bo = some k → blk dd ≠ some k) : BR w2 bo m c Z :=
  h.keep fun k e => A.grown.block k (h.lt k e) (fun x => hd k e x.symm)
/-- a row grew, then another one that is new -/
theorem Ap.other {ao bo dd de : Option Addr} (h : Ap w w' ao bo) (A : Ap w' w2 dd de) (hn : ∀ k, blk dd = some k → w.heap.size ≤ k) : Ap w w2 ao bo :=
  ⟨⟨A.grown.os.trans h.grown.os, A.grown.tape.trans h.grown.tape, A.grown.output.trans h.grown.output, Nat.le_trans h.grown.size A.grown.size, fun i hi hne => (A.grown.block i (Nat.lt_of_lt_of_le hi h.grown.size) (fun x => by have := hn i x.symm; omega)).trans (h.grown.block i hi hne)⟩, h.lies⟩
/-- it lies in new memory still -/
theorem Ap.fresh {dd de : Option Addr} {n : Nat} (A : Ap w w2 dd de) (hn : ∀ k, blk dd = some k → n ≤ k) (hs : n ≤ w.heap.size) : ∀ k, blk de = some k → n ≤ k := by
  intro k hk
  rcases A.lies with e | ⟨j, e, hj⟩
  · exact hn k (e ▸ hk)
  · rw [e] at hk
    have := Option.some.inj hk
    omega
/-- and apart from what lay apart -/
theorem Ap.apart {bo dd de : Option Addr} {m c : Nat} {Z : List Int} (h : BR w bo m c Z) (A : Ap w w2 dd de) (hd : ∀ k, blk bo = some k → blk dd ≠ some k) : ∀ k, blk bo = some k → blk de ≠ some k := by
  intro k hk hx
  rcases A.lies with e | ⟨j, e, hj⟩
  · exact hd k hk (e ▸ hx)
  · rw [e] at hx
    have h1 := Option.some.inj hx
    have h2 := h.lt k hk
    omega
theorem apart_symm {bo dd : Option Addr} (hd : ∀ k, blk bo = some k → blk dd ≠ some k) : ∀ k, blk dd = some k → blk bo ≠ some k := fun k h1 h2 => hd k h2 h1
/-- an append of bytes that were laid just before -/
theorem appL {ao : Option Addr} {n cap m : Nat} {Z Y : List Int} {cs : Array Value} (h : BR w ao n cap Z) (hm : Y.length = m) (hcs : cs.toList = bcs Y) (hb : n + m ≤ 140737488355328)
    {ops : Array Oper} {rest : List Oper} {o : Oper} {a : Act} {Q : Exit → Act → World → Prop} (hgd : o.guard = none) (s q : Operand) (ho : o.op = .call { callee := .builtin .append, args := #[s, q], argTypes := #[56, 56] })
    (hs : a.eval s = .slice ao n cap) (hy : a.eval q = .slice (some ⟨w.heap.size, 0, none⟩) m m)
    (hK : ∀ (bo : Option Addr) (cap2 : Nat) (w2 : World), BR w2 bo (n + m) cap2 (Z ++ Y) → Ap w w2 ao bo → wpList Tryz.prog ops Q rest (a.put o.dst (.slice bo (n + m) cap2)) w2) :
    wpList Tryz.prog ops Q (o :: rest) a (w.alloc (.cells cs 5)) := by
  refine (h.new (.cells cs 5)).app ⟨w.heap.size, 0, none⟩ m m (Y := Y) hm (fun t ht => ?_) hb hgd s q ho hs hy fun bo c2 w2 hB hA => hK bo c2 w2 hB ((Ap.new w _ ao).trans hA)
  rw [Addr.add_lit, Nat.zero_add, World.cell?_alloc_new, ← Array.getElem?_toList, hcs, bcs_at Y t (by omega)]
theorem run_str {ao : Option Addr} {n cap : Nat} {Z : List Int} (h : BR w ao n cap Z) : (convert 56 9 (.slice ao n cap)).run Tryz.prog w = .ok (.string (strOfNums Z)) w := by
  have hl := h.len
  rcases h.2 with ⟨h0, h00⟩ | ⟨q, cap2, cur, hv, r⟩
  · simp only [Value.slice.injEq] at h0
    obtain ⟨rfl, e0, rfl⟩ := h0
    subst e0
    have e := List.eq_nil_of_length_eq_zero hl
    subst e
    rw [run_convert_bytes_nil w 56 5 Tryz.underlying56 Tryz.underlying5 0 0 9 Tryz.underlying9]
    rfl
  · simp only [Value.slice.injEq, true_and] at hv
    obtain ⟨rfl, rfl⟩ := hv
    refine run_convert_bytes_arg w 56 5 Tryz.underlying56 Tryz.underlying5 q 0 n cap Z hl (fun i hi => ?_) 9 Tryz.underlying9
    rw [Nat.zero_add, World.ownsRow.cellAt (show w.ownsRow 0 5 1 (.slice (some ⟨q, 0, none⟩) n cap) n (bcs Z) from h) i (by omega), bcs_at Z i (by omega)]
theorem atB {ao : Option Addr} {n cap : Nat} {Z : List Int} (h : BR w ao n cap Z) (j : Nat) (hj : j < n) : ∃ b, ao = some ⟨b, 0, none⟩ ∧ w.cell? ⟨b, j, none⟩ = some (.int .u8 (Z.getD j 0)) := by
  obtain ⟨b, h1, h2, _⟩ := h.put j hj 0
  exact ⟨b, h1, h2⟩
end Go.Proofs.YtpnnlfhknnnfhaaGreatDoor
