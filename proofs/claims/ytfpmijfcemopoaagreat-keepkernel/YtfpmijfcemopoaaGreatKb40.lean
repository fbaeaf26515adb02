/- PVw LView BVc -/
import Derived.Test.YtfpmijfcemopoaaGreatKb00
import Derived.ProofKit
import Derived.OpenShut
import Derived.Lib.SmallJoins
import Derived.HandedShaped
import Derived.SizedLaws
import Derived.ChangeMaps5
import Derived.JoinedCond
import Derived.Test.YtfpmijfcemopoaaGreatKb17
import Derived.Test.YtfpmijfcemopoaaGreatKb39
namespace Go.Proofs.YtfpmijfcemopoaaGreat
open Go.ChangeShapes Go.WideShapes Go.ChangeAt Go.RowKit Go.Joins

theorem own : ownKnob Tryz.prog.godebug = none := by kernel_rfl
theorem laidOut : laidOutB Tryz.prog = true := by kernel_rfl
theorem cellsS : Tryz.prog.cellsOf 62 = 3 := by kernel_rfl
theorem cellsI : Tryz.prog.cellsOf 3 = 1 := by kernel_rfl
theorem cellsP : Tryz.prog.cellsOf 27 = 2 := by kernel_rfl
theorem cellsV : Tryz.prog.cellsOf 24 = 1 := by kernel_rfl
theorem cellsC : Tryz.prog.cellsOf 25 = 1 := by kernel_rfl
theorem bulk_pos {H : Type} (d : DataW H) : 1 ≤ Rows.uptoBulk d := by
 cases d with
 | lit l => cases l <;> simp only [Rows.uptoBulk] <;> omega
 | _ => simp only [Rows.uptoBulk] <;> omega
theorem bulk_len {H : Type} : ∀ (l : List (DataW H)), l.length ≤ Rows.uptoBulkAll l
 | [] => by simp
 | d :: l => by have := bulk_len l; have := bulk_pos d; simp only [Rows.uptoBulkAll, List.length_cons]; omega
theorem list2 {α : Type} {l : List α} (h : l.length = 2) : ∃ a b, l = [a, b] := by
 match l, h with
 | [a, b], _ => exact ⟨a, b, rfl⟩
theorem list3 {α : Type} {l : List α} (h : l.length = 3) : ∃ a b c, l = [a, b, c] := by
 match l, h with
 | [a, b, c], _ => exact ⟨a, b, c, rfl⟩
theorem open_span {H : Type} {enc : TypeId × Value → H} {w : World} {base : Nat} {spare : Nat → Bool} {held : Bool} {fuel : Nat} {cs : List Value} {x : DataW H × List MemPlace}
  (h : DataW.trod enc Tryz.prog w base spare held fuel 62 cs = some x) : ∃ e : Sn, cs = (SC e).toList := by
 obtain ⟨xs, m, _, hx, hcl, hxl, hf⟩ := DataW.trod_struct Tryz.underlying62 h
 obtain ⟨v0, v1, v2, rfl⟩ := list3 (hcl.trans cellsS)
 obtain ⟨y0, y1, y2, rfl⟩ := list3 hxl
 have t0 := hf 0 _ rfl
 have t1 := hf 1 _ rfl
 have t2 := hf 2 _ rfl
 simp [cellsI] at t0 t1 t2
 obtain ⟨r, e0, -, _⟩ := DataW.trod_int Tryz.underlying3 t0
 obtain ⟨n, e1, -, _⟩ := DataW.trod_int Tryz.underlying3 t1
 obtain ⟨m', e2, -, _⟩ := DataW.trod_int Tryz.underlying3 t2
 simp only [List.cons.injEq, and_true] at e0 e1 e2
 subst e0 e1 e2
 exact ⟨⟨r, n, m'⟩, rfl⟩
theorem viewI {H : Type} {enc : TypeId × Value → H} {W : World} {fuel : Nat} {v : Value} {x : DataW H × List MemPlace}
  (h : DataW.trod enc Tryz.prog W 0 (fun _ => true) true fuel 24 [v] = some x) (hw : Rows.uptoBulk x.1 ≤ 1048576) : ∃ (ao : Option Addr) (n cap : Nat) (Z : List Int), v = .slice ao n cap ∧ V.Src W ao n cap Z ∧ n ≤ 1048576 := by
 rcases DataW.trod_slice Tryz.underlying24 h with h0 | ⟨a, len, cap, elems, rest, n, _, hcs, hx, hb, hl, hm, hlen, hel, hsp, hns⟩
 ·have e : v = .slice none 0 0 := by simpa using h0.1
  exact ⟨none, 0, 0, [], e, ⟨rfl, fun _ => ⟨rfl, rfl⟩, fun ad h => (by cases h)⟩, Nat.zero_le _⟩
 ·subst hx
  have e : v = .slice (some a) len cap := by simpa using hcs
  simp only [Rows.uptoBulk] at hw
  have h1 := bulk_len (elems.map (·.1))
  simp only [List.length_map] at h1
  have key : ∀ i, i < len → ∃ z : Int, W.cell? (a.add i) = some (.int .i64 z) := by
   intro i hi
   have he := hel i hi
   obtain ⟨y, hy⟩ : ∃ y, elems[i]? = some y := ⟨_, List.getElem?_eq_getElem (by omega)⟩
   rw [hy, cellsI, Option.bind_eq_some_iff] at he
   obtain ⟨cs', hcs, hy'⟩ := he
   obtain ⟨hl', -, hce⟩ := World.cells?_some hcs
   obtain ⟨z, rfl, -, _⟩ := DataW.trod_int Tryz.underlying3 hy'
   have g0 := hce 0 (by omega)
   rw [add_zero, Nat.mul_one] at g0
   exact ⟨z, g0⟩
  refine ⟨some a, len, cap, (List.range len).map fun i => if h : i < len then Classical.choose (key i h) else 0, e, ⟨by simp, fun h => (by cases h), fun ad h t ht => ?_⟩, by omega⟩
  obtain rfl := Option.some.inj h
  have : ((List.range len).map fun i => if h : i < len then Classical.choose (key i h) else 0).getD t 0 = Classical.choose (key t ht) := by simp [List.getD, ht]
  rw [this]
  exact Classical.choose_spec (key t ht)
theorem viewC {H : Type} {enc : TypeId × Value → H} {W : World} {fuel : Nat} {v : Value} {x : DataW H × List MemPlace}
  (h : DataW.trod enc Tryz.prog W 0 (fun _ => true) true fuel 25 [v] = some x) (hw : Rows.uptoBulk x.1 ≤ 1048576) : ∃ (ao : Option Addr) (n cap : Nat) (L : List Sn), v = .slice ao n cap ∧ SSrc W ao n cap L ∧ n ≤ 1048576 := by
 rcases DataW.trod_slice Tryz.underlying25 h with h0 | ⟨a, len, cap, elems, rest, n, _, hcs, hx, hb, hl, hm, hlen, hel, hsp, hns⟩
 ·have e : v = .slice none 0 0 := by simpa using h0.1
  exact ⟨none, 0, 0, [], e, SSrc.empty _, Nat.zero_le _⟩
 ·subst hx
  have e : v = .slice (some a) len cap := by simpa using hcs
  simp only [Rows.uptoBulk] at hw
  have h1 := bulk_len (elems.map (·.1))
  simp only [List.length_map] at h1
  have key : ∀ i, i < len → ∃ e : Sn, SnAt W (a.add (i * 3)) e := by
   intro i hi
   have he := hel i hi
   obtain ⟨y, hy⟩ : ∃ y, elems[i]? = some y := ⟨_, List.getElem?_eq_getElem (by omega)⟩
   rw [hy, cellsS, Option.bind_eq_some_iff] at he
   obtain ⟨cs', hcs, hy'⟩ := he
   obtain ⟨_, -, hce⟩ := World.cells?_some hcs
   obtain ⟨e, rfl⟩ := open_span hy'
   have g0 := hce 0 (by omega)
   rw [add_zero] at g0
   exact ⟨e, ⟨g0, hce 1 (by omega), hce 2 (by omega)⟩⟩
  refine ⟨some a, len, cap, (List.range len).map fun i => if h : i < len then Classical.choose (key i h) else sn0, e, ⟨by simp, fun h => (by cases h), fun ad h t ht => ?_, by omega, hl⟩, by omega⟩
  obtain rfl := Option.some.inj h
  have : ((List.range len).map fun i => if h : i < len then Classical.choose (key i h) else sn0).getD t sn0 = Classical.choose (key t ht) := by simp [List.getD, ht]
  rw [this]
  exact Classical.choose_spec (key t ht)
theorem viewP {H : Type} {enc : TypeId × Value → H} {W : World} {fuel : Nat} {cs : List Value} {x : DataW H × List MemPlace}
  (h : DataW.trod enc Tryz.prog W 0 (fun _ => true) true fuel 27 cs = some x) (hw : Rows.uptoBulk x.1 ≤ 1048576) : ∃ p : Pv, cs = [.slice p.vo p.vn p.vc, .slice p.co p.cn p.cc] ∧ PSrc W p ∧ p.P.cloud.length ≤ 1048576 := by
 obtain ⟨xs, m, _, hx, hcl, hxl, hf⟩ := DataW.trod_struct Tryz.underlying27 h
 obtain ⟨v0, v1, rfl⟩ := list2 (hcl.trans cellsP)
 obtain ⟨y0, y1, rfl⟩ := list2 hxl
 have t0 := hf 0 _ rfl
 have t1 := hf 1 _ rfl
 simp [cellsV, cellsC] at t0 t1
 subst hx
 simp only [Rows.uptoBulk, List.map_cons, List.map_nil, Rows.uptoBulkAll] at hw
 obtain ⟨a0, l0, c0, Z, rfl, S0, g0⟩ := viewI t0 (by omega)
 obtain ⟨a1, l1, c1, L, rfl, S1, g1⟩ := viewC t1 (by omega)
 exact ⟨⟨a0, l0, c0, a1, l1, c1, ⟨Z, L⟩⟩, rfl, ⟨S0, S1, by show l0 ≤ _; omega⟩, by show L.length ≤ _; rw [S1.len]; exact g1⟩
end Go.Proofs.YtfpmijfcemopoaaGreat
namespace Go.Proofs.YtfpmijfcemopoaaGreat.K
open Go.ChangeShapes Go.WideShapes Go.ChangeAt Go.RowKit Go.Joins

theorem own : ownKnob Tryz.prog.godebug = none := by kernel_rfl
theorem laidOut : laidOutB Tryz.prog = true := by kernel_rfl
theorem cells28 : Tryz.prog.cellsOf 49 = 4 := by kernel_rfl
theorem cells26 : Tryz.prog.cellsOf 47 = 2 := by kernel_rfl
theorem cells3 : Tryz.prog.cellsOf 3 = 1 := by kernel_rfl
theorem cells9 : Tryz.prog.cellsOf 9 = 1 := by kernel_rfl
theorem bytes28 : Tryz.prog.bytesOf 49 = 40 := by kernel_rfl
theorem list2 {α : Type} {l : List α} (h : l.length = 2) : ∃ a b, l = [a, b] := by
 match l, h with
 | [a, b], _ => exact ⟨a, b, rfl⟩
theorem list3 {α : Type} {l : List α} (h : l.length = 3) : ∃ a b c, l = [a, b, c] := by
 match l, h with
 | [a, b, c], _ => exact ⟨a, b, c, rfl⟩
theorem list4 {α : Type} {l : List α} (h : l.length = 4) : ∃ a b c d, l = [a, b, c, d] := by
 match l, h with
 | [a, b, c, d], _ => exact ⟨a, b, c, d, rfl⟩
theorem open_entry {H : Type} {enc : TypeId × Value → H} {w : World} {base : Nat} {spare : Nat → Bool} {held : Bool} {fuel : Nat} {cs : List Value} {x : DataW H × List MemPlace}
  (h : DataW.trod enc Tryz.prog w base spare held fuel 49 cs = some x) : ∃ e : En, cs = (EC e).toList ∧ e.sku.size ≤ maxLen := by
 obtain ⟨xs, m, _, hx, hcl, hxl, hf⟩ := DataW.trod_struct Tryz.underlying49 h
 obtain ⟨v0, v1, v2, v3, rfl⟩ := list4 (hcl.trans cells28)
 obtain ⟨y0, y1, y2, rfl⟩ := list3 hxl
 have t0 := hf 0 _ rfl
 have t1 := hf 1 _ rfl
 have t2 := hf 2 _ rfl
 simp [cells3, cells9, cells26] at t0 t1 t2
 obtain ⟨xs', m', _, hx', hcl', hxl', hf'⟩ := DataW.trod_struct Tryz.underlying47 t0
 obtain ⟨z0, z1, rfl⟩ := list2 hxl'
 have s0 := hf' 0 _ rfl
 have s1 := hf' 1 _ rfl
 simp [cells3] at s0 s1
 obtain ⟨r, e0, -, _⟩ := DataW.trod_int Tryz.underlying3 s0
 obtain ⟨n, e1, -, _⟩ := DataW.trod_int Tryz.underlying3 s1
 obtain ⟨s, e2, -, w2⟩ := DataW.trod_string Tryz.underlying9 t1
 obtain ⟨q, e3, -, _⟩ := DataW.trod_int Tryz.underlying3 t2
 simp only [List.cons.injEq, and_true] at e0 e1 e2 e3
 subst e0 e1 e2 e3
 exact ⟨⟨r, n, s, q⟩, rfl, w2⟩
theorem view {H : Type} {enc : TypeId × Value → H} {W : World} {a0 : Option Addr} {len cap : Nat} {d : DataW H} {p : List MemPlace}
  (h : DataW.Trod enc Tryz.prog W 0 (fun _ => true) true 23 (Value.slice a0 len cap) d p) (hw : ∀ n ∈ DataW.weights Tryz.prog 23 d, n ≤ reachBytes) :
  ∃ L : List En, ESrc W a0 len cap L := by
 obtain ⟨fuel, hf⟩ := h
 rcases DataW.trod_slice Tryz.underlying23 hf with h0 | ⟨a, len', cap', elems, rest, n, _, hcs, hx, hb, hl, hm, hlen, hel, hsp, hns⟩
 ·have hcs := h0.1
  simp [Value.cells] at hcs
  obtain ⟨rfl, rfl, rfl⟩ := hcs
  exact ⟨[], rfl, fun _ => ⟨rfl, rfl⟩, fun ad h => (by cases h), fun e he => (by cases he), Nat.zero_le _⟩
 ·simp [Value.cells] at hcs
  obtain ⟨rfl, rfl, rfl⟩ := hcs
  simp only [Prod.mk.injEq] at hx
  obtain ⟨rfl, _⟩ := hx
  have h1 := hw (((elems.map (·.1)).length + (rest.map (·.1)).length) * Tryz.prog.bytesOf 49) (by simp [DataW.weights, Tryz.underlying23])
  rw [bytes28] at h1
  simp at h1
  have h2 := reachBytes_lt
  have key : ∀ i, i < len → ∃ e : En, EnAt W (a.add (i * 4)) e ∧ e.sku.size ≤ maxLen := by
   intro i hi
   have he := hel i hi
   obtain ⟨y, hy⟩ : ∃ y, elems[i]? = some y := ⟨_, List.getElem?_eq_getElem (by omega)⟩
   rw [hy, cells28, Option.bind_eq_some_iff] at he
   obtain ⟨cs', hcs, hy'⟩ := he
   obtain ⟨_, -, hce⟩ := World.cells?_some hcs
   obtain ⟨e, rfl, hs⟩ := open_entry hy'
   have g0 := hce 0 (by omega)
   rw [add_zero] at g0
   exact ⟨e, ⟨g0, hce 1 (by omega), hce 2 (by omega), hce 3 (by omega)⟩, hs⟩
  refine ⟨(List.range len).map fun i => if h : i < len then Classical.choose (key i h) else en0, by simp, fun h => (by cases h), fun ad h t ht => ?_, fun e he => ?_, by omega⟩
  ·obtain rfl := Option.some.inj h
   have : ((List.range len).map fun i => if h : i < len then Classical.choose (key i h) else en0).getD t en0 = Classical.choose (key t ht) := by simp [List.getD, ht]
   rw [this]
   exact (Classical.choose_spec (key t ht)).1
  ·simp only [List.mem_map, List.mem_range] at he
   obtain ⟨i, hi, rfl⟩ := he
   rw [dif_pos hi]
   exact (Classical.choose_spec (key i hi)).2
end Go.Proofs.YtfpmijfcemopoaaGreat.K
namespace Go.Proofs.YtfpmijfcemopoaaGreat
open Go.ChangeShapes Go.WideShapes Go.ChangeAt Go.RowKit Go.Joins

theorem cellsRe : Tryz.prog.cellsOf 39 = 3 := by kernel_rfl
theorem cellsSk : Tryz.prog.cellsOf 9 = 1 := by kernel_rfl
theorem cellsEs : Tryz.prog.cellsOf 23 = 1 := by kernel_rfl
theorem cellsRs : Tryz.prog.cellsOf 22 = 1 := by kernel_rfl
theorem cellsKs : Tryz.prog.cellsOf 29 = 8 := by kernel_rfl
theorem bulk_at {H : Type} : ∀ (l : List (DataW H)) (d : DataW H), d ∈ l → Rows.uptoBulk d ≤ Rows.uptoBulkAll l
 | e :: l, d, h => by
  simp only [Rows.uptoBulkAll]
  rcases List.mem_cons.1 h with rfl | h
  ·omega
  ·have := bulk_at l d h; omega
theorem bulk_five {H : Type} : ∀ (l : List (DataW H)), (∀ d ∈ l, 5 ≤ Rows.uptoBulk d) → 5 * l.length ≤ Rows.uptoBulkAll l
 | [], _ => by simp
 | d :: l, h => by
  have h1 := bulk_five l (fun e he => h e (List.mem_cons_of_mem _ he))
  have h2 := h d List.mem_cons_self
  simp only [Rows.uptoBulkAll, List.length_cons]; omega
theorem viewEu {H : Type} {enc : TypeId × Value → H} {W : World} {fuel : Nat} {v : Value} {x : DataW H × List MemPlace}
  (h : DataW.trod enc Tryz.prog W 0 (fun _ => true) true fuel 23 [v] = some x) (hw : Rows.uptoBulk x.1 ≤ 1048576) : ∃ (ao : Option Addr) (n cap : Nat) (L : List K.En), v = .slice ao n cap ∧ K.ESrc W ao n cap L ∧ n ≤ 1048576 := by
 rcases DataW.trod_slice Tryz.underlying23 h with h0 | ⟨a, len, cap, elems, rest, n, _, hcs, hx, hb, hl, hm, hlen, hel, hsp, hns⟩
 ·have e : v = .slice none 0 0 := by simpa using h0.1
  exact ⟨none, 0, 0, [], e, ⟨rfl, fun _ => ⟨rfl, rfl⟩, fun ad h => (by cases h), fun e he => (by cases he), Nat.zero_le _⟩, Nat.zero_le _⟩
 ·subst hx
  have e : v = .slice (some a) len cap := by simpa using hcs
  simp only [Rows.uptoBulk] at hw
  have h1 := bulk_len (elems.map (·.1))
  simp only [List.length_map] at h1
  have key : ∀ i, i < len → ∃ e : K.En, K.EnAt W (a.add (i * 4)) e ∧ e.sku.size ≤ maxLen := by
   intro i hi
   have he := hel i hi
   obtain ⟨y, hy⟩ : ∃ y, elems[i]? = some y := ⟨_, List.getElem?_eq_getElem (by omega)⟩
   rw [hy, K.cells28, Option.bind_eq_some_iff] at he
   obtain ⟨cs', hcs, hy'⟩ := he
   obtain ⟨_, -, hce⟩ := World.cells?_some hcs
   obtain ⟨e, rfl, hs⟩ := K.open_entry hy'
   have g0 := hce 0 (by omega)
   rw [add_zero] at g0
   exact ⟨e, ⟨g0, hce 1 (by omega), hce 2 (by omega), hce 3 (by omega)⟩, hs⟩
  refine ⟨some a, len, cap, (List.range len).map fun i => if h : i < len then Classical.choose (key i h) else K.en0, e, ⟨by simp, fun h => (by cases h), fun ad h t ht => ?_, fun e he => ?_, by omega⟩, by omega⟩
  ·obtain rfl := Option.some.inj h
   have : ((List.range len).map fun i => if h : i < len then Classical.choose (key i h) else K.en0).getD t K.en0 = Classical.choose (key t ht) := by simp [List.getD, ht]
   rw [this]
   exact (Classical.choose_spec (key t ht)).1
  ·simp only [List.mem_map, List.mem_range] at he
   obtain ⟨i, hi, rfl⟩ := he
   rw [dif_pos hi]
   exact (Classical.choose_spec (key i hi)).2
theorem past_bulk {H : Type} {enc : TypeId × Value → H} {W : World} {fuel : Nat} {cs : List Value} {x : DataW H × List MemPlace}
  (h : DataW.trod enc Tryz.prog W 0 (fun _ => true) true fuel 27 cs = some x) : 3 ≤ Rows.uptoBulk x.1 := by
 obtain ⟨xs, m, _, hx, hcl, hxl, hf⟩ := DataW.trod_struct Tryz.underlying27 h
 obtain ⟨y0, y1, rfl⟩ := list2 hxl
 subst hx
 have h0 := bulk_pos y0.1
 have h1 := bulk_pos y1.1
 simp only [Rows.uptoBulk, List.map_cons, List.map_nil, Rows.uptoBulkAll]
 omega
theorem open_recordU {H : Type} {enc : TypeId × Value → H} {W : World} {fuel : Nat} {cs : List Value} {x : DataW H × List MemPlace}
  (h : DataW.trod enc Tryz.prog W 0 (fun _ => true) true fuel 39 cs = some x) : 5 ≤ Rows.uptoBulk x.1 ∧ (Rows.uptoBulk x.1 ≤ 1048576 → ∃ r : Rc, cs = (ReC (mkR r)).toList ∧ RcOk W r ∧ r.p.P.cloud.length ≤ 1048576) := by
 obtain ⟨xs, m, _, hx, hcl, hxl, hf⟩ := DataW.trod_struct Tryz.underlying39 h
 obtain ⟨v0, v1, v2, rfl⟩ := list3 (hcl.trans cellsRe)
 obtain ⟨y0, y1, rfl⟩ := list2 hxl
 have t0 := hf 0 _ rfl
 have t1 := hf 1 _ rfl
 simp [cellsP, cellsSk] at t0 t1
 subst hx
 simp only [Rows.uptoBulk, List.map_cons, List.map_nil, Rows.uptoBulkAll]
 have b0 := bulk_pos y0.1
 have b1 := past_bulk t1
 refine ⟨by omega, fun hw => ?_⟩
 obtain ⟨s, e0, -, hs⟩ := DataW.trod_string Tryz.underlying9 t0
 obtain ⟨p, ep, Sp, hl⟩ := viewP t1 (by omega)
 simp only [List.cons.injEq, and_true] at e0 ep
 obtain ⟨rfl, rfl⟩ := ep
 subst e0
 exact ⟨⟨s, p⟩, rfl, ⟨Sp, hs⟩, hl⟩
theorem viewRu {H : Type} {enc : TypeId × Value → H} {W : World} {fuel : Nat} {v : Value} {x : DataW H × List MemPlace}
  (h : DataW.trod enc Tryz.prog W 0 (fun _ => true) true fuel 22 [v] = some x) (hw : Rows.uptoBulk x.1 ≤ 1048576) : ∃ (ao : Option Addr) (n cap : Nat) (L : List Rc), v = .slice ao n cap ∧ RcS W ao n cap L ∧ RSm L := by
 rcases DataW.trod_slice Tryz.underlying22 h with h0 | ⟨a, len, cap, elems, rest, n, _, hcs, hx, hb, hl, hm, hlen, hel, hsp, hns⟩
 ·have e : v = .slice none 0 0 := by simpa using h0.1
  exact ⟨none, 0, 0, [], e, RcS.empty _, Nat.zero_le _, fun r hr => by cases hr⟩
 ·subst hx
  have e : v = .slice (some a) len cap := by simpa using hcs
  simp only [Rows.uptoBulk] at hw
  have op : ∀ i (hi : i < elems.length), i < len ∧ ∃ cs', (5 ≤ Rows.uptoBulk elems[i].1 ∧ (Rows.uptoBulk elems[i].1 ≤ 1048576 → ∃ r : Rc, cs' = (ReC (mkR r)).toList ∧ RcOk W r ∧ r.p.P.cloud.length ≤ 1048576)) ∧ (∀ j, j < 3 → W.cell? ((a.add (i * 3)).add j) = cs'[j]?) := by
   intro i hi
   have hi' : i < len := by omega
   have he := hel i hi'
   rw [List.getElem?_eq_getElem hi, cellsRe, Option.bind_eq_some_iff] at he
   obtain ⟨cs', hcs, hy'⟩ := he
   obtain ⟨_, -, hce⟩ := World.cells?_some hcs
   exact ⟨hi', cs', open_recordU hy', fun j hj => hce j hj⟩
  have h5 := bulk_five (elems.map (·.1)) (fun d hd => by
   obtain ⟨y, hy, rfl⟩ := List.mem_map.1 hd
   obtain ⟨i, hi, rfl⟩ := List.getElem_of_mem hy
   obtain ⟨-, _, h, -⟩ := op i hi
   exact h.1)
  simp only [List.length_map] at h5
  have key : ∀ i, i < len → ∃ r : Rc, ReAt W (a.add (i * 3)) (mkR r) ∧ RcOk W r ∧ r.p.P.cloud.length ≤ 1048576 := by
   intro i hi
   have hi' : i < elems.length := by omega
   obtain ⟨-, cs', h, hce⟩ := op i hi'
   obtain ⟨r, rfl, hr, hl2⟩ := h.2 (by have := bulk_at (elems.map (·.1)) elems[i].1 (List.mem_map_of_mem (f := (·.1)) (List.getElem_mem hi')); omega)
   have g0 := hce 0 (by omega)
   rw [add_zero] at g0
   exact ⟨r, ⟨g0, hce 1 (by omega), hce 2 (by omega)⟩, hr, hl2⟩
  refine ⟨some a, len, cap, (List.range len).map fun i => if h : i < len then Classical.choose (key i h) else rc0, e, ⟨by simp, (fun h => by cases h), fun ad h t ht => ?_, fun r hr => ?_, by omega⟩, by simp; omega, fun r hr => ?_⟩
  ·obtain rfl := Option.some.inj h
   have : ((List.range len).map fun i => if h : i < len then Classical.choose (key i h) else rc0).getD t rc0 = Classical.choose (key t ht) := by simp [List.getD, ht]
   rw [this]
   exact (Classical.choose_spec (key t ht)).1
  ·simp only [List.mem_map, List.mem_range] at hr
   obtain ⟨i, hi, rfl⟩ := hr
   rw [dif_pos hi]
   exact (Classical.choose_spec (key i hi)).2.1
  ·simp only [List.mem_map, List.mem_range] at hr
   obtain ⟨i, hi, rfl⟩ := hr
   rw [dif_pos hi]
   exact (Classical.choose_spec (key i hi)).2.2
theorem list6 {α : Type} {l : List α} (h : l.length = 6) : ∃ a b c d e f, l = [a, b, c, d, e, f] := by
 match l, h with
 | [a, b, c, d, e, f], _ => exact ⟨a, b, c, d, e, f, rfl⟩
theorem list8 {α : Type} {l : List α} (h : l.length = 8) : ∃ a b c d e f g i, l = [a, b, c, d, e, f, g, i] := by
 match l, h with
 | [a, b, c, d, e, f, g, i], _ => exact ⟨a, b, c, d, e, f, g, i, rfl⟩
theorem open_case7 {H : Type} {enc : TypeId × Value → H} {W : World} {fuel : Nat} {cs : List Value} {x : DataW H × List MemPlace}
  (h : DataW.trod enc Tryz.prog W 0 (fun _ => true) true fuel 29 cs = some x) (hw : Rows.uptoBulk x.1 ≤ 1048576) : ∃ (m : Ks) (R Q : List Rc) (A B : List K.En), cs = (KsC m).toList ∧ KsS W m R Q A B := by
 obtain ⟨xs, m, _, hx, hcl, hxl, hf⟩ := DataW.trod_struct Tryz.underlying29 h
 obtain ⟨v0, v1, v2, v3, v4, v5, v6, v7, rfl⟩ := list8 (hcl.trans cellsKs)
 obtain ⟨y0, y1, y2, y3, y4, y5, rfl⟩ := list6 hxl
 have t0 := hf 0 _ rfl
 have t1 := hf 1 _ rfl
 have t2 := hf 2 _ rfl
 have t3 := hf 3 _ rfl
 have t4 := hf 4 _ rfl
 have t5 := hf 5 _ rfl
 simp [cellsP, cellsEs, cellsRs] at t0 t1 t2 t3 t4 t5
 subst hx
 simp only [Rows.uptoBulk, List.map_cons, List.map_nil, Rows.uptoBulkAll] at hw
 obtain ⟨ro, rn, rc, R, rfl, Sr, r1⟩ := viewRu t0 (by omega)
 obtain ⟨qo, qn, qc, Q, rfl, Sq, q1⟩ := viewRu t1 (by omega)
 obtain ⟨ao, an, ac, A, rfl, Sa, a1⟩ := viewEu t2 (by omega)
 obtain ⟨bo, bn, bc, B, rfl, Sb, b1⟩ := viewEu t3 (by omega)
 obtain ⟨p, ep, Sp, -⟩ := viewP t4 (by omega)
 obtain ⟨o, eo, So, -⟩ := viewP t5 (by omega)
 simp only [List.cons.injEq, and_true] at ep eo
 obtain ⟨rfl, rfl⟩ := ep
 obtain ⟨rfl, rfl⟩ := eo
 exact ⟨⟨ro, rn, rc, qo, qn, qc, ao, an, ac, bo, bn, bc, p, o⟩, R, Q, A, B, rfl, ⟨Sr, Sq, Sa, Sb, Sp, So, r1, q1, a1, b1⟩⟩
end Go.Proofs.YtfpmijfcemopoaaGreat
