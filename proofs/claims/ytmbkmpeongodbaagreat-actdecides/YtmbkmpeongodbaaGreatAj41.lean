/- LView EIv -/
import Derived.Test.YtmbkmpeongodbaaGreatAj15
import Derived.ProofKit
import Derived.OpenShut
import Derived.Lib.SmallJoins
import Derived.HandedShaped
import Derived.SizedLaws
import Derived.ChangeMaps5
import Derived.Test.YtmbkmpeongodbaaGreatAj39
import Derived.Test.YtmbkmpeongodbaaGreatAj40
namespace Go.Proofs.YtmbkmpeongodbaaGreat.K
open Go.ChangeShapes Go.WideShapes Go.ChangeAt Go.RowKit Go.Joins

theorem own : ownKnob Tryz.prog.godebug = none := by kernel_rfl
theorem cells28 : Tryz.prog.cellsOf 46 = 4 := by kernel_rfl
theorem cells26 : Tryz.prog.cellsOf 44 = 2 := by kernel_rfl
theorem cells3 : Tryz.prog.cellsOf 3 = 1 := by kernel_rfl
theorem cells9 : Tryz.prog.cellsOf 9 = 1 := by kernel_rfl
theorem bytes28 : Tryz.prog.bytesOf 46 = 40 := by kernel_rfl
theorem list2 {α : Type} {l : List α} (h : l.length = 2) : ∃ a b, l = [a, b] := by
 match l, h with
 | [a, b], _ => exact ⟨a, b, rfl⟩
theorem list3 {α : Type} {l : List α} (h : l.length = 3) : ∃ a b c, l = [a, b, c] := by
 match l, h with
 | [a, b, c], _ => exact ⟨a, b, c, rfl⟩
theorem list4 {α : Type} {l : List α} (h : l.length = 4) : ∃ a b c d, l = [a, b, c, d] := by
 match l, h with
 | [a, b, c, d], _ => exact ⟨a, b, c, d, rfl⟩
theorem open_entry {H : Type} {enc : TypeId × Value → H} {w : World} {base : Nat} {spare : Nat → Bool} {held : Bool} {fuel : Nat} {cs : List Value} {x : DataW H × List MemPlace}
  (h : DataW.trod enc Tryz.prog w base spare held fuel 46 cs = some x) : ∃ e : En, cs = (EC e).toList ∧ e.sku.size ≤ maxLen := by
 obtain ⟨xs, m, _, hx, hcl, hxl, hf⟩ := DataW.trod_struct Tryz.underlying46 h
 obtain ⟨v0, v1, v2, v3, rfl⟩ := list4 (hcl.trans cells28)
 obtain ⟨y0, y1, y2, rfl⟩ := list3 hxl
 have t0 := hf 0 _ rfl
 have t1 := hf 1 _ rfl
 have t2 := hf 2 _ rfl
 simp [cells3, cells9, cells26] at t0 t1 t2
 obtain ⟨xs', m', _, hx', hcl', hxl', hf'⟩ := DataW.trod_struct Tryz.underlying44 t0
 obtain ⟨z0, z1, rfl⟩ := list2 hxl'
 have s0 := hf' 0 _ rfl
 have s1 := hf' 1 _ rfl
 simp [cells3] at s0 s1
 obtain ⟨r, e0, -, _⟩ := DataW.trod_int Tryz.underlying3 s0
 obtain ⟨n, e1, -, _⟩ := DataW.trod_int Tryz.underlying3 s1
 obtain ⟨s, e2, -, w2⟩ := DataW.trod_string Tryz.underlying9 t1
 obtain ⟨q, e3, -, _⟩ := DataW.trod_int Tryz.underlying3 t2
 simp only [List.cons.injEq, and_true] at e0 e1 e2 e3
 subst e0 e1 e2 e3
 exact ⟨⟨r, n, s, q⟩, rfl, w2⟩
theorem view {H : Type} {enc : TypeId × Value → H} {W : World} {a0 : Option Addr} {len cap : Nat} {d : DataW H} {p : List MemPlace}
  (h : DataW.Trod enc Tryz.prog W 0 (fun _ => true) true 22 (Value.slice a0 len cap) d p) (hw : ∀ n ∈ DataW.weights Tryz.prog 22 d, n ≤ reachBytes) :
  ∃ L : List En, ESrc W a0 len cap L := by
 obtain ⟨fuel, hf⟩ := h
 rcases DataW.trod_slice Tryz.underlying22 hf with h0 | ⟨a, len', cap', elems, rest, n, _, hcs, hx, hb, hl, hm, hlen, hel, hsp, hns⟩
 ·have hcs := h0.1
  simp [Value.cells] at hcs
  obtain ⟨rfl, rfl, rfl⟩ := hcs
  exact ⟨[], rfl, fun _ => ⟨rfl, rfl⟩, fun ad h => (by cases h), fun e he => (by cases he), Nat.zero_le _⟩
 ·simp [Value.cells] at hcs
  obtain ⟨rfl, rfl, rfl⟩ := hcs
  simp only [Prod.mk.injEq] at hx
  obtain ⟨rfl, _⟩ := hx
  have h1 := hw (((elems.map (·.1)).length + (rest.map (·.1)).length) * Tryz.prog.bytesOf 46) (by simp [DataW.weights, Tryz.underlying22])
  rw [bytes28] at h1
  simp at h1
  have h2 := reachBytes_lt
  have key : ∀ i, i < len → ∃ e : En, EnAt W (a.add (i * 4)) e ∧ e.sku.size ≤ maxLen := by
   intro i hi
   have he := hel i hi
   obtain ⟨y, hy⟩ : ∃ y, elems[i]? = some y := ⟨_, List.getElem?_eq_getElem (by omega)⟩
   rw [hy, cells28, Option.bind_eq_some_iff] at he
   obtain ⟨cs', hcs, hy'⟩ := he
   obtain ⟨_, -, hce⟩ := World.cells?_some hcs
   obtain ⟨e, rfl, hs⟩ := open_entry hy'
   have g0 := hce 0 (by omega)
   rw [add_zero] at g0
   exact ⟨e, ⟨g0, hce 1 (by omega), hce 2 (by omega), hce 3 (by omega)⟩, hs⟩
  refine ⟨(List.range len).map fun i => if h : i < len then Classical.choose (key i h) else en0, by simp, fun h => (by cases h), fun ad h t ht => ?_, fun e he => ?_, by omega⟩
  ·obtain rfl := Option.some.inj h
   have : ((List.range len).map fun i => if h : i < len then Classical.choose (key i h) else en0).getD t en0 = Classical.choose (key t ht) := by simp [List.getD, ht]
   rw [this]
   exact (Classical.choose_spec (key t ht)).1
  ·simp only [List.mem_map, List.mem_range] at he
   obtain ⟨i, hi, rfl⟩ := he
   rw [dif_pos hi]
   exact (Classical.choose_spec (key i hi)).2
end Go.Proofs.YtmbkmpeongodbaaGreat.K
namespace Go.Proofs.YtmbkmpeongodbaaGreat
open Go.ChangeShapes Go.WideShapes Go.ChangeAt Go.RowKit Go.Joins

theorem cellsWi : Tryz.prog.cellsOf 32 = 11 := by kernel_rfl
theorem cellsEs : Tryz.prog.cellsOf 22 = 1 := by kernel_rfl
theorem cellsLm : Tryz.prog.cellsOf 28 = 2 := by kernel_rfl
theorem eleven {α : Type} {l : List α} (h : l.length = 11) : ∃ a b c d e f g i j k m, l = [a, b, c, d, e, f, g, i, j, k, m] := by
 match l, h with
 | [a, b, c, d, e, f, g, i, j, k, m], _ => exact ⟨a, b, c, d, e, f, g, i, j, k, m, rfl⟩
theorem viewEs {H : Type} {enc : TypeId × Value → H} {W : World} {fuel : Nat} {v : Value} {x : DataW H × List MemPlace}
  (h : DataW.trod enc Tryz.prog W 0 (fun _ => true) true fuel 22 [v] = some x) (hw : ∀ n ∈ x.1.weights Tryz.prog 22, n ≤ reachBytes) : ∃ (ao : Option Addr) (n cap : Nat) (L : List K.En), v = .slice ao n cap ∧ K.ESrc W ao n cap L := by
 obtain ⟨ao, an, ac, rfl⟩ : ∃ ao an ac, v = .slice ao an ac := by
  rcases DataW.trod_slice Tryz.underlying22 h with h0 | ⟨a, len, cap, _, _, _, _, hcs, _⟩
  ·exact ⟨none, 0, 0, by simpa using h0.1⟩
  ·exact ⟨some a, len, cap, by simpa using hcs⟩
 obtain ⟨E, Se⟩ := K.view (d := x.1) (p := x.2) ⟨_, by simpa [Value.cells] using h⟩ hw
 exact ⟨ao, an, ac, E, rfl, Se⟩
theorem open_wish {H : Type} {enc : TypeId × Value → H} {W : World} {fuel : Nat} {cs : List Value} {x : DataW H × List MemPlace}
  (h : DataW.trod enc Tryz.prog W 0 (fun _ => true) true fuel 32 cs = some x) (hw : ∀ n ∈ x.1.weights Tryz.prog 32, n ≤ reachBytes) : ∃ m : Wsh, cs = (WiC (mkW m)).toList ∧ WshOk W m := by
 obtain ⟨xs, m, _, hx, hcl, hxl, hf⟩ := DataW.trod_struct Tryz.underlying32 h
 obtain ⟨v0, v1, v2, v3, v4, v5, v6, v7, v8, v9, v10, rfl⟩ := eleven (hcl.trans cellsWi)
 obtain ⟨y0, y1, y2, y3, y4, rfl⟩ := list5 hxl
 have t0 := hf 0 _ rfl
 have t1 := hf 1 _ rfl
 have t2 := hf 2 _ rfl
 have t3 := hf 3 _ rfl
 have t4 := hf 4 _ rfl
 simp [cellsP, cellsEs, cellsI, cellsLm, cellsAc] at t0 t1 t2 t3 t4
 subst hx
 simp only [DataW.weights, Tryz.underlying32] at hw
 obtain ⟨ao, an, ac, A, rfl, SA⟩ := viewEs t0 (fun n hn => hw n (DataW.weights_mem_each (j := 0) (t := 22) rfl rfl n hn))
 obtain ⟨p, ep, Sp⟩ := viewPw t1 (fun n hn => hw n (DataW.weights_mem_each (j := 1) (t := 26) rfl rfl n hn))
 obtain ⟨rp, e3, -, _⟩ := DataW.trod_int Tryz.underlying3 t2
 obtain ⟨xd, md, _, hxd, hcd, hxld, hfd⟩ := DataW.trod_struct Tryz.underlying28 t3
 obtain ⟨z0, z1, rfl⟩ := K.list2 hxld
 have u0 := hfd 0 _ rfl
 have u1 := hfd 1 _ rfl
 simp [cellsI] at u0 u1
 obtain ⟨ln, e4, -, _⟩ := DataW.trod_int Tryz.underlying3 u0
 obtain ⟨ct, e5, -, _⟩ := DataW.trod_int Tryz.underlying3 u1
 obtain ⟨k, s, q, a, ea, Sa, hs, hk⟩ := open_act t4 (fun n hn => hw n (DataW.weights_mem_each (j := 4) (t := 30) rfl rfl n hn))
 simp only [AcC, mkA, List.cons.injEq, and_true] at ep e3 e4 e5 ea
 obtain ⟨rfl, rfl⟩ := ep
 obtain ⟨rfl, rfl, rfl, rfl, rfl⟩ := ea
 subst e3 e4 e5
 exact ⟨⟨ao, an, ac, A, p, rp, ln, ct, k, s, q, a⟩, rfl, SA, Sp, Sa, hs, hk⟩
end Go.Proofs.YtmbkmpeongodbaaGreat

