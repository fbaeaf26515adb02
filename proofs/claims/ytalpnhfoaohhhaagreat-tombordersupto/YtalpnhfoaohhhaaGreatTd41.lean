/- PVw LView TVf TCm THa THr QCb -/
import Derived.Test.YtalpnhfoaohhhaaGreatTk
import Derived.Test.YtalpnhfoaohhhaaGreatTd00
import Derived.ProofKit
import Derived.OpenShut
import Derived.Lib.SmallJoins
import Derived.HandedShaped
import Derived.SizedLaws
import Derived.ChangeMaps5
import Derived.JoinedCond
import Derived.Test.YtalpnhfoaohhhaaGreatTd15
import Derived.Test.YtalpnhfoaohhhaaGreatTd30
import Derived.Test.YtalpnhfoaohhhaaGreatTd38
import Derived.Test.YtalpnhfoaohhhaaGreatTd40
import Derived.Test.YtalpnhfoaohhhaaGreatTd34
import Derived.Test.YtalpnhfoaohhhaaGreatTd39
set_option maxRecDepth 100000
set_option maxHeartbeats 3200000
namespace Go.Proofs.YtalpnhfoaohhhaaGreat
open Go.ChangeShapes Go.WideShapes Go.ChangeAt Go.RowKit Go.Joins

theorem own : ownKnob Tryz.prog.godebug = none := by kernel_rfl
theorem laidOut : laidOutB Tryz.prog = true := by kernel_rfl
theorem cellsS : Tryz.prog.cellsOf 99 = 3 := by kernel_rfl
theorem cellsI : Tryz.prog.cellsOf 3 = 1 := by kernel_rfl
theorem cellsP : Tryz.prog.cellsOf 26 = 2 := by kernel_rfl
theorem cellsV : Tryz.prog.cellsOf 23 = 1 := by kernel_rfl
theorem cellsC : Tryz.prog.cellsOf 24 = 1 := by kernel_rfl
theorem bulk_pos {H : Type} (d : DataW H) : 1 <= Rows.uptoBulk d := by
 cases d with
 | lit l => cases l <;> simp only [Rows.uptoBulk] <;> omega
 | _ => simp only [Rows.uptoBulk] <;> omega
theorem bulk_len {H : Type} : ∀ (l : List (DataW H)), l.length <= Rows.uptoBulkAll l
 | [] => by simp
 | d :: l => by have := bulk_len l; have := bulk_pos d; simp only [Rows.uptoBulkAll, List.length_cons]; omega
theorem list2 {α : Type} {l : List α} (h : l.length = 2) : ∃ a b, l = [a, b] := by
 match l, h with
 | [a, b], _ => exact ⟨a, b, rfl⟩
theorem list3 {α : Type} {l : List α} (h : l.length = 3) : ∃ a b c, l = [a, b, c] := by
 match l, h with
 | [a, b, c], _ => exact ⟨a, b, c, rfl⟩
theorem open_span {H : Type} {enc : TypeId × Value -> H} {w : World} {base : Nat} {spare : Nat -> Bool} {held : Bool} {fuel : Nat} {cs : List Value} {x : DataW H × List MemPlace}
  (h : DataW.trod enc Tryz.prog w base spare held fuel 99 cs = some x) : ∃ e : Sn, cs = (SC e).toList := by
 obtain ⟨xs, m, _, hx, hcl, hxl, hf⟩ := DataW.trod_struct Tryz.underlying99 h
 obtain ⟨v0, v1, v2, rfl⟩ := list3 (hcl.trans cellsS)
 obtain ⟨y0, y1, y2, rfl⟩ := list3 hxl
 have t0 := hf 0 _ rfl
 have t1 := hf 1 _ rfl
 have t2 := hf 2 _ rfl
 simp [cellsI] at t0 t1 t2
 obtain ⟨r, e0, -, _⟩ := DataW.trod_int Tryz.underlying3 t0
 obtain ⟨n, e1, -, _⟩ := DataW.trod_int Tryz.underlying3 t1
 obtain ⟨m', e2, -, _⟩ := DataW.trod_int Tryz.underlying3 t2
 simp only [List.cons.injEq, and_true] at e0 e1 e2
 subst e0 e1 e2
 exact ⟨⟨r, n, m'⟩, rfl⟩
theorem viewI {H : Type} {enc : TypeId × Value -> H} {W : World} {fuel : Nat} {v : Value} {x : DataW H × List MemPlace}
  (h : DataW.trod enc Tryz.prog W 0 (fun _ => true) true fuel 23 [v] = some x) (hw : Rows.uptoBulk x.1 <= 1048576) : ∃ (ao : Option Addr) (n cap : Nat) (Z : List Int), v = .slice ao n cap /\ V.Src W ao n cap Z /\ n <= 1048576 := by
 rcases DataW.trod_slice Tryz.underlying23 h with h0 | ⟨a, len, cap, elems, rest, n, _, hcs, hx, hb, hl, hm, hlen, hel, hsp, hns⟩
 ·have e : v = .slice none 0 0 := by simpa using h0.1
  exact ⟨none, 0, 0, [], e, ⟨rfl, fun _ => ⟨rfl, rfl⟩, fun ad h => (by cases h)⟩, Nat.zero_le _⟩
 ·subst hx
  have e : v = .slice (some a) len cap := by simpa using hcs
  simp only [Rows.uptoBulk] at hw
  have h1 := bulk_len (elems.map (·.1))
  simp only [List.length_map] at h1
  have key : ∀ i, i < len -> ∃ z : Int, W.cell? (a.add i) = some (.int .i64 z) := by
   intro i hi
   have he := hel i hi
   obtain ⟨y, hy⟩ : ∃ y, elems[i]? = some y := ⟨_, List.getElem?_eq_getElem (by omega)⟩
   rw [hy, cellsI, Option.bind_eq_some_iff] at he
   obtain ⟨cs', hcs, hy'⟩ := he
   obtain ⟨hl', -, hce⟩ := World.cells?_some hcs
   obtain ⟨z, rfl, -, _⟩ := DataW.trod_int Tryz.underlying3 hy'
   have g0 := hce 0 (by omega)
   rw [add_zero, Nat.mul_one] at g0
   exact ⟨z, g0⟩
  refine ⟨some a, len, cap, (List.range len).map fun i => if h : i < len then Classical.choose (key i h) else 0, e, ⟨by simp, fun h => (by cases h), fun ad h t ht => ?_⟩, by omega⟩
  obtain rfl := Option.some.inj h
  have : ((List.range len).map fun i => if h : i < len then Classical.choose (key i h) else 0).getD t 0 = Classical.choose (key t ht) := by simp [List.getD, ht]
  rw [this]
  exact Classical.choose_spec (key t ht)
theorem viewC {H : Type} {enc : TypeId × Value -> H} {W : World} {fuel : Nat} {v : Value} {x : DataW H × List MemPlace}
  (h : DataW.trod enc Tryz.prog W 0 (fun _ => true) true fuel 24 [v] = some x) (hw : Rows.uptoBulk x.1 <= 1048576) : ∃ (ao : Option Addr) (n cap : Nat) (L : List Sn), v = .slice ao n cap /\ SSrc W ao n cap L /\ n <= 1048576 := by
 rcases DataW.trod_slice Tryz.underlying24 h with h0 | ⟨a, len, cap, elems, rest, n, _, hcs, hx, hb, hl, hm, hlen, hel, hsp, hns⟩
 ·have e : v = .slice none 0 0 := by simpa using h0.1
  exact ⟨none, 0, 0, [], e, SSrc.empty _, Nat.zero_le _⟩
 ·subst hx
  have e : v = .slice (some a) len cap := by simpa using hcs
  simp only [Rows.uptoBulk] at hw
  have h1 := bulk_len (elems.map (·.1))
  simp only [List.length_map] at h1
  have key : ∀ i, i < len -> ∃ e : Sn, SnAt W (a.add (i * 3)) e := by
   intro i hi
   have he := hel i hi
   obtain ⟨y, hy⟩ : ∃ y, elems[i]? = some y := ⟨_, List.getElem?_eq_getElem (by omega)⟩
   rw [hy, cellsS, Option.bind_eq_some_iff] at he
   obtain ⟨cs', hcs, hy'⟩ := he
   obtain ⟨_, -, hce⟩ := World.cells?_some hcs
   obtain ⟨e, rfl⟩ := open_span hy'
   have g0 := hce 0 (by omega)
   rw [add_zero] at g0
   exact ⟨e, ⟨g0, hce 1 (by omega), hce 2 (by omega)⟩⟩
  refine ⟨some a, len, cap, (List.range len).map fun i => if h : i < len then Classical.choose (key i h) else sn0, e, ⟨by simp, fun h => (by cases h), fun ad h t ht => ?_, by omega, hl⟩, by omega⟩
  obtain rfl := Option.some.inj h
  have : ((List.range len).map fun i => if h : i < len then Classical.choose (key i h) else sn0).getD t sn0 = Classical.choose (key t ht) := by simp [List.getD, ht]
  rw [this]
  exact Classical.choose_spec (key t ht)
theorem viewP {H : Type} {enc : TypeId × Value -> H} {W : World} {fuel : Nat} {cs : List Value} {x : DataW H × List MemPlace}
  (h : DataW.trod enc Tryz.prog W 0 (fun _ => true) true fuel 26 cs = some x) (hw : Rows.uptoBulk x.1 <= 1048576) : ∃ p : Pv, cs = [.slice p.vo p.vn p.vc, .slice p.co p.cn p.cc] /\ PSrc W p /\ p.P.cloud.length <= 1048576 := by
 obtain ⟨xs, m, _, hx, hcl, hxl, hf⟩ := DataW.trod_struct Tryz.underlying26 h
 obtain ⟨v0, v1, rfl⟩ := list2 (hcl.trans cellsP)
 obtain ⟨y0, y1, rfl⟩ := list2 hxl
 have t0 := hf 0 _ rfl
 have t1 := hf 1 _ rfl
 simp [cellsV, cellsC] at t0 t1
 subst hx
 simp only [Rows.uptoBulk, List.map_cons, List.map_nil, Rows.uptoBulkAll] at hw
 obtain ⟨a0, l0, c0, Z, rfl, S0, g0⟩ := viewI t0 (by omega)
 obtain ⟨a1, l1, c1, L, rfl, S1, g1⟩ := viewC t1 (by omega)
 exact ⟨⟨a0, l0, c0, a1, l1, c1, ⟨Z, L⟩⟩, rfl, ⟨S0, S1, by show l0 <= _; omega⟩, by show L.length <= _; rw [S1.len]; exact g1⟩
end Go.Proofs.YtalpnhfoaohhhaaGreat
namespace Go.Proofs.YtalpnhfoaohhhaaGreat.K
open Go.ChangeShapes Go.WideShapes Go.ChangeAt Go.RowKit Go.Joins

theorem own : ownKnob Tryz.prog.godebug = none := by kernel_rfl
theorem cells28 : Tryz.prog.cellsOf 36 = 4 := by kernel_rfl
theorem cells26 : Tryz.prog.cellsOf 32 = 2 := by kernel_rfl
theorem cells3 : Tryz.prog.cellsOf 3 = 1 := by kernel_rfl
theorem cells9 : Tryz.prog.cellsOf 9 = 1 := by kernel_rfl
theorem list2 {α : Type} {l : List α} (h : l.length = 2) : ∃ a b, l = [a, b] := by
 match l, h with
 | [a, b], _ => exact ⟨a, b, rfl⟩
theorem list3 {α : Type} {l : List α} (h : l.length = 3) : ∃ a b c, l = [a, b, c] := by
 match l, h with
 | [a, b, c], _ => exact ⟨a, b, c, rfl⟩
theorem list4 {α : Type} {l : List α} (h : l.length = 4) : ∃ a b c d, l = [a, b, c, d] := by
 match l, h with
 | [a, b, c, d], _ => exact ⟨a, b, c, d, rfl⟩
theorem open_entry {H : Type} {enc : TypeId × Value -> H} {w : World} {base : Nat} {spare : Nat -> Bool} {held : Bool} {fuel : Nat} {cs : List Value} {x : DataW H × List MemPlace}
  (h : DataW.trod enc Tryz.prog w base spare held fuel 36 cs = some x) : ∃ e : En, cs = (EC e).toList /\ e.sku.size <= maxLen := by
 obtain ⟨xs, m, _, hx, hcl, hxl, hf⟩ := DataW.trod_struct Tryz.underlying36 h
 obtain ⟨v0, v1, v2, v3, rfl⟩ := list4 (hcl.trans cells28)
 obtain ⟨y0, y1, y2, rfl⟩ := list3 hxl
 have t0 := hf 0 _ rfl
 have t1 := hf 1 _ rfl
 have t2 := hf 2 _ rfl
 simp [cells3, cells9, cells26] at t0 t1 t2
 obtain ⟨xs', m', _, hx', hcl', hxl', hf'⟩ := DataW.trod_struct Tryz.underlying32 t0
 obtain ⟨z0, z1, rfl⟩ := list2 hxl'
 have s0 := hf' 0 _ rfl
 have s1 := hf' 1 _ rfl
 simp [cells3] at s0 s1
 obtain ⟨r, e0, -, _⟩ := DataW.trod_int Tryz.underlying3 s0
 obtain ⟨n, e1, -, _⟩ := DataW.trod_int Tryz.underlying3 s1
 obtain ⟨s, e2, -, w2⟩ := DataW.trod_string Tryz.underlying9 t1
 obtain ⟨q, e3, -, _⟩ := DataW.trod_int Tryz.underlying3 t2
 simp only [List.cons.injEq, and_true] at e0 e1 e2 e3
 subst e0 e1 e2 e3
 exact ⟨⟨r, n, s, q⟩, rfl, w2⟩
end Go.Proofs.YtalpnhfoaohhhaaGreat.K
namespace Go.Proofs.YtalpnhfoaohhhaaGreat
section
open Go.ChangeShapes Go.WideShapes Go.ChangeAt Go.RowKit Go.Joins

def RSmT (L : List Rc) : Prop := L.length <= 209715 /\ ∀ r ∈ L, r.p.P.cloud.length <= 1048576
structure FcU (w : World) (f : Fc) : Prop where
 ok : FcOk w f
 row : FcR f
 sm : RSmT f.rs
 an : f.an <= 1048576
theorem FcU.rn {w : World} {f : Fc} (h : FcU w f) : f.rn <= 209715 := by rw [<- h.ok.rs.len]; exact h.sm.1
theorem cellsRe : Tryz.prog.cellsOf 62 = 3 := by kernel_rfl
theorem cellsSk : Tryz.prog.cellsOf 9 = 1 := by kernel_rfl
theorem cellsEs : Tryz.prog.cellsOf 22 = 1 := by kernel_rfl
theorem cellsRs : Tryz.prog.cellsOf 27 = 1 := by kernel_rfl
theorem cellsFa : Tryz.prog.cellsOf 29 = 4 := by kernel_rfl
theorem bulk_at {H : Type} : ∀ (l : List (DataW H)) (d : DataW H), d ∈ l -> Rows.uptoBulk d <= Rows.uptoBulkAll l
 | e :: l, d, h => by
  simp only [Rows.uptoBulkAll]
  rcases List.mem_cons.1 h with rfl | h
  ·omega
  ·have := bulk_at l d h; omega
theorem bulk_five {H : Type} : ∀ (l : List (DataW H)), (∀ d ∈ l, 5 <= Rows.uptoBulk d) -> 5 * l.length <= Rows.uptoBulkAll l
 | [], _ => by simp
 | d :: l, h => by
  have h1 := bulk_five l (fun e he => h e (List.mem_cons_of_mem _ he))
  have h2 := h d List.mem_cons_self
  simp only [Rows.uptoBulkAll, List.length_cons]; omega
theorem viewEu {H : Type} {enc : TypeId × Value -> H} {W : World} {fuel : Nat} {v : Value} {x : DataW H × List MemPlace}
  (h : DataW.trod enc Tryz.prog W 0 (fun _ => true) true fuel 22 [v] = some x) (hw : Rows.uptoBulk x.1 <= 1048576) : ∃ (ao : Option Addr) (n cap : Nat) (L : List K.En), v = .slice ao n cap /\ K.ESrc W ao n cap L /\ n <= 1048576 := by
 rcases DataW.trod_slice Tryz.underlying22 h with h0 | ⟨a, len, cap, elems, rest, n, _, hcs, hx, hb, hl, hm, hlen, hel, hsp, hns⟩
 ·have e : v = .slice none 0 0 := by simpa using h0.1
  exact ⟨none, 0, 0, [], e, ⟨rfl, fun _ => ⟨rfl, rfl⟩, fun ad h => (by cases h), fun e he => (by cases he), Nat.zero_le _⟩, Nat.zero_le _⟩
 ·subst hx
  have e : v = .slice (some a) len cap := by simpa using hcs
  simp only [Rows.uptoBulk] at hw
  have h1 := bulk_len (elems.map (·.1))
  simp only [List.length_map] at h1
  have key : ∀ i, i < len -> ∃ e : K.En, K.EnAt W (a.add (i * 4)) e /\ e.sku.size <= maxLen := by
   intro i hi
   have he := hel i hi
   obtain ⟨y, hy⟩ : ∃ y, elems[i]? = some y := ⟨_, List.getElem?_eq_getElem (by omega)⟩
   rw [hy, K.cells28, Option.bind_eq_some_iff] at he
   obtain ⟨cs', hcs, hy'⟩ := he
   obtain ⟨_, -, hce⟩ := World.cells?_some hcs
   obtain ⟨e, rfl, hs⟩ := K.open_entry hy'
   have g0 := hce 0 (by omega)
   rw [add_zero] at g0
   exact ⟨e, ⟨g0, hce 1 (by omega), hce 2 (by omega), hce 3 (by omega)⟩, hs⟩
  refine ⟨some a, len, cap, (List.range len).map fun i => if h : i < len then Classical.choose (key i h) else K.en0, e, ⟨by simp, fun h => (by cases h), fun ad h t ht => ?_, fun e he => ?_, by omega⟩, by omega⟩
  ·obtain rfl := Option.some.inj h
   have : ((List.range len).map fun i => if h : i < len then Classical.choose (key i h) else K.en0).getD t K.en0 = Classical.choose (key t ht) := by simp [List.getD, ht]
   rw [this]
   exact (Classical.choose_spec (key t ht)).1
  ·simp only [List.mem_map, List.mem_range] at he
   obtain ⟨i, hi, rfl⟩ := he
   rw [dif_pos hi]
   exact (Classical.choose_spec (key i hi)).2
theorem past_bulk {H : Type} {enc : TypeId × Value -> H} {W : World} {fuel : Nat} {cs : List Value} {x : DataW H × List MemPlace}
  (h : DataW.trod enc Tryz.prog W 0 (fun _ => true) true fuel 26 cs = some x) : 3 <= Rows.uptoBulk x.1 := by
 obtain ⟨xs, m, _, hx, hcl, hxl, hf⟩ := DataW.trod_struct Tryz.underlying26 h
 obtain ⟨y0, y1, rfl⟩ := list2 hxl
 subst hx
 have h0 := bulk_pos y0.1
 have h1 := bulk_pos y1.1
 simp only [Rows.uptoBulk, List.map_cons, List.map_nil, Rows.uptoBulkAll]
 omega
theorem open_recordU {H : Type} {enc : TypeId × Value -> H} {W : World} {fuel : Nat} {cs : List Value} {x : DataW H × List MemPlace}
  (h : DataW.trod enc Tryz.prog W 0 (fun _ => true) true fuel 62 cs = some x) : 5 <= Rows.uptoBulk x.1 /\ (Rows.uptoBulk x.1 <= 1048576 -> ∃ r : Rc, cs = (ReC (mkR r)).toList /\ RcOk W r /\ r.p.P.cloud.length <= 1048576) := by
 obtain ⟨xs, m, _, hx, hcl, hxl, hf⟩ := DataW.trod_struct Tryz.underlying62 h
 obtain ⟨v0, v1, v2, rfl⟩ := list3 (hcl.trans cellsRe)
 obtain ⟨y0, y1, rfl⟩ := list2 hxl
 have t0 := hf 0 _ rfl
 have t1 := hf 1 _ rfl
 simp [cellsP, cellsSk] at t0 t1
 subst hx
 simp only [Rows.uptoBulk, List.map_cons, List.map_nil, Rows.uptoBulkAll]
 have b0 := bulk_pos y0.1
 have b1 := past_bulk t1
 refine ⟨by omega, fun hw => ?_⟩
 obtain ⟨s, e0, -, hs⟩ := DataW.trod_string Tryz.underlying9 t0
 obtain ⟨p, ep, Sp, hl⟩ := viewP t1 (by omega)
 simp only [List.cons.injEq, and_true] at e0 ep
 obtain ⟨rfl, rfl⟩ := ep
 subst e0
 exact ⟨⟨s, p⟩, rfl, ⟨Sp, hs⟩, hl⟩
theorem viewRT {H : Type} {enc : TypeId × Value -> H} {W : World} {fuel : Nat} {v : Value} {x : DataW H × List MemPlace}
  (h : DataW.trod enc Tryz.prog W 0 (fun _ => true) true fuel 27 [v] = some x) (hw : Rows.uptoBulk x.1 <= 1048576) : ∃ (ao : Option Addr) (n cap : Nat) (L : List Rc), v = .slice ao n cap /\ RcT W ao n cap L /\ RSmT L := by
 rcases DataW.trod_slice Tryz.underlying27 h with h0 | ⟨a, len, cap, elems, rest, n, _, hcs, hx, hb, hl, hm, hlen, hel, hsp, hns⟩
 ·have e : v = .slice none 0 0 := by simpa using h0.1
  exact ⟨none, 0, 0, [], e, ⟨RcS.empty _, Nat.le_refl _, fun _ => rfl⟩, Nat.zero_le _, fun r hr => by cases hr⟩
 ·subst hx
  have e : v = .slice (some a) len cap := by simpa using hcs
  simp only [Rows.uptoBulk] at hw
  have op : ∀ i (hi : i < elems.length), i < len /\ ∃ cs', (5 <= Rows.uptoBulk elems[i].1 /\ (Rows.uptoBulk elems[i].1 <= 1048576 -> ∃ r : Rc, cs' = (ReC (mkR r)).toList /\ RcOk W r /\ r.p.P.cloud.length <= 1048576)) /\ (∀ j, j < 3 -> W.cell? ((a.add (i * 3)).add j) = cs'[j]?) := by
   intro i hi
   have hi' : i < len := by omega
   have he := hel i hi'
   rw [List.getElem?_eq_getElem hi, cellsRe, Option.bind_eq_some_iff] at he
   obtain ⟨cs', hcs, hy'⟩ := he
   obtain ⟨_, -, hce⟩ := World.cells?_some hcs
   exact ⟨hi', cs', open_recordU hy', fun j hj => hce j hj⟩
  have h5 := bulk_five (elems.map (·.1)) (fun d hd => by
   obtain ⟨y, hy, rfl⟩ := List.mem_map.1 hd
   obtain ⟨i, hi, rfl⟩ := List.getElem_of_mem hy
   obtain ⟨-, _, h, -⟩ := op i hi
   exact h.1)
  simp only [List.length_map] at h5
  have key : ∀ i, i < len -> ∃ r : Rc, ReAt W (a.add (i * 3)) (mkR r) /\ RcOk W r /\ r.p.P.cloud.length <= 1048576 := by
   intro i hi
   have hi' : i < elems.length := by omega
   obtain ⟨-, cs', h, hce⟩ := op i hi'
   obtain ⟨r, rfl, hr, hl2⟩ := h.2 (by have := bulk_at (elems.map (·.1)) elems[i].1 (List.mem_map_of_mem (f := (·.1)) (List.getElem_mem hi')); omega)
   have g0 := hce 0 (by omega)
   rw [add_zero] at g0
   exact ⟨r, ⟨g0, hce 1 (by omega), hce 2 (by omega)⟩, hr, hl2⟩
  refine ⟨some a, len, cap, (List.range len).map fun i => if h : i < len then Classical.choose (key i h) else rc0, e, ⟨⟨by simp, (fun h => by cases h), fun ad h t ht => ?_, fun r hr => ?_, by omega⟩, hl, fun h => by cases h⟩, by simp; omega, fun r hr => ?_⟩
  ·obtain rfl := Option.some.inj h
   have : ((List.range len).map fun i => if h : i < len then Classical.choose (key i h) else rc0).getD t rc0 = Classical.choose (key t ht) := by simp [List.getD, ht]
   rw [this]
   exact (Classical.choose_spec (key t ht)).1
  ·simp only [List.mem_map, List.mem_range] at hr
   obtain ⟨i, hi, rfl⟩ := hr
   rw [dif_pos hi]
   exact (Classical.choose_spec (key i hi)).2.1
  ·simp only [List.mem_map, List.mem_range] at hr
   obtain ⟨i, hi, rfl⟩ := hr
   rw [dif_pos hi]
   exact (Classical.choose_spec (key i hi)).2.2
theorem open_factsU {H : Type} {enc : TypeId × Value -> H} {W : World} {fuel : Nat} {cs : List Value} {x : DataW H × List MemPlace}
  (h : DataW.trod enc Tryz.prog W 0 (fun _ => true) true fuel 29 cs = some x) (hw : Rows.uptoBulk x.1 <= 1048576) : ∃ f : Fc, cs = (FaC (mkF f)).toList /\ FcU W f := by
 obtain ⟨xs, m, _, hx, hcl, hxl, hf⟩ := DataW.trod_struct Tryz.underlying29 h
 obtain ⟨v0, v1, v2, v3, rfl⟩ := K.list4 (hcl.trans cellsFa)
 obtain ⟨y0, y1, y2, rfl⟩ := list3 hxl
 have t0 := hf 0 _ rfl
 have t1 := hf 1 _ rfl
 have t2 := hf 2 _ rfl
 simp [cellsP, cellsEs, cellsRs] at t0 t1 t2
 subst hx
 simp only [Rows.uptoBulk, List.map_cons, List.map_nil, Rows.uptoBulkAll] at hw
 obtain ⟨ro, rn, rc, R, rfl, Sr, r1⟩ := viewRT t2 (by omega)
 obtain ⟨ao, an, ac, A, rfl, Sa, a1⟩ := viewEu t0 (by omega)
 obtain ⟨p, ep, Sp, -⟩ := viewP t1 (by omega)
 simp only [List.cons.injEq, and_true] at ep
 obtain ⟨rfl, rfl⟩ := ep
 exact ⟨⟨ao, an, ac, A, p, ro, rn, rc, R⟩, rfl, ⟨Sa, Sp, Sr.src⟩, ⟨Sr.room, Sr.nil⟩, r1, a1⟩
end
section
open Go.RowKit
theorem find_there {e z : K.En} {L : List K.En} {k : Int} (h : K.IxOf L e k) (hz : z ∈ L) (hd : K.sameDot z e = true) : 0 <= k /\ K.fdE L k ∈ L /\ K.sameDot (K.fdE L k) e = true := by
 rcases h with ⟨rfl, h1⟩ | ⟨i, h1, rfl, h2, -⟩
 ·obtain ⟨j, hj, rfl⟩ := List.getElem_of_mem hz
  have := h1 j hj
  rw [List.getD_eq_getElem?_getD, List.getElem?_eq_getElem hj] at this
  simp only [Option.getD_some] at this
  rw [this] at hd; cases hd
 ·have e1 : K.fdE L (i : Int) = L.getD i K.en0 := by unfold K.fdE; rw [if_neg (by omega), Int.toNat_natCast]
  rw [e1]
  exact ⟨by omega, getE_mem h1, h2⟩
attribute [local go_sem ↓] ldFa_eq stFa_eq ldD_eq stD_eq K.ld28_eq K.st28_eq
attribute [local go_sem] cells_FaV FaC_size zero_FaZ cells_RV RC_size zero_RC fold_RC K.zero_EC K.cells_EV K.EC_size
end
section
open Go.RowKit
attribute [local go_sem ↓] ldP_eq stP_eq ldFa_eq stFa_eq ldD_eq stD_eq K.ld28_eq K.st28_eq
attribute [local go_sem] cells_PV PC_size cells_FaV FaC_size zero_FaZ cells_RV RC_size zero_RC fold_RC K.zero_EC K.cells_EV K.EC_size K.fold_EC
theorem hasAdd_any (f : Fc) (e : K.En) (w : World) (hF : FcOk w f) (hc : K.chk f.es = 0) :
  Calls Tryz.prog 45 #[FaV (mkF f), K.EV e] w fun x w' => GivesB w w' x (e ∈ f.es) := by
 have b1 := below_new w (.cells (FaC (mkF f)) 29)
 have X1 := FaBox_new w (mkF f)
 obtain ⟨w1, hw1⟩ : ∃ w1, w.alloc (.cells (FaC (mkF f)) 29) = w1 := ⟨_, rfl⟩
 have hs1 : w1.heap.size = w.heap.size + 1 := by rw [<- hw1]; simp
 rw [hw1] at b1 X1
 have b2 := below_new w1 (.cells (K.EC e) 36)
 have x2 := K.box_new w1 36 e
 obtain ⟨w2, hw2⟩ : ∃ w2, w1.alloc (.cells (K.EC e) 36) = w2 := ⟨_, rfl⟩
 rw [hw2] at b2 x2
 rw [hs1] at x2
 obtain ⟨G, hG0⟩ : ∃ G, w.heap.size = G := ⟨_, rfl⟩
 rw [hG0] at X1 x2 hs1
 have HX := hide (X1.below b2)
 have HY := hide x2
 have HBK := hide (b1.trans (b2.mono b1.size))
 have HF := hide (hF.below HBK.out)
 have HCk := hide hc
 clear hF b1 b2 X1 x2 hc
 obtain ⟨c0, -⟩ := HX.out.cs
 have ldd : (ldD (.pointer (some ⟨G + 1, 0, none⟩))).run Tryz.prog w2 = .ok (RV (dotE e)) w2 := run_ldD ⟨HY.out.at.c0, HY.out.at.c1⟩
 go_enter Tryz.func45, Tryz.ntmps45
 go_wp2_with fail
 clear hw1 hw2 hs1 hG0 c0 ldd
 refine (K.refFind_any f.ao f.an f.ac f.es e _ HF.out.es).mono ?_
 rintro x w3 ⟨k, rfl, hk, b3⟩
 obtain ⟨y, hy⟩ : ∃ y, K.fdE f.es k = y := ⟨_, rfl⟩
 obtain ⟨g4, hg4⟩ : ∃ g, w3.heap.size = g := ⟨_, rfl⟩
 obtain ⟨w4, hst, X4, B4, -⟩ := K.made w3 y g4 hg4
 have b34 := b3.trans (B4.mono b3.size)
 have HB4 := hide (HBK.out.trans (b34.mono HBK.out.size))
 have l4 := K.run_ld28 X4.at
 have le := K.run_ld28 (HY.out.below b34).at
 have hmem : K.fdB k = true /\ y = e ↔ e ∈ f.es := by
  constructor
  ·rintro ⟨h1, rfl⟩
   rcases hk with ⟨rfl, h⟩ | ⟨i, h2, rfl, h3, -⟩
   ·simp [K.fdB] at h1
   ·rw [<- hy]
    have e1 : K.fdE f.es (i : Int) = f.es.getD i K.en0 := by unfold K.fdE; rw [if_neg (by omega), Int.toNat_natCast]
    rw [e1]; exact getE_mem h2
  ·intro h
   obtain ⟨h1, h2, h3⟩ := find_there hk h (by unfold K.sameDot; simp)
   refine ⟨by unfold K.fdB; simp; omega, ?_⟩
   rw [<- hy]
   exact dot_one HCk.out h2 h (sameDot_dotOf h3)
 obtain ⟨q, hq⟩ : ∃ q, K.fdB k = q := ⟨_, rfl⟩
 rw [hq] at hmem
 rw [hy, hq]
 have Hmem := hide hmem
 obtain ⟨z, hz⟩ : ∃ z, K.eqE y e = z := ⟨_, rfl⟩
 have leq : ∀ W : World, (Op.equalIn 10000 36 (K.EV y) (K.EV e)).run Tryz.prog W = .ok z W := fun W => by rw [<- hz]; exact K.run_eq28 y e W
 have Hz : Hid (z = true ↔ y = e) := by rw [<- hz]; exact eqE_iff2 _ _
 clear hk b3 X4 B4 b34 hy hq hmem hz
 cases q with
 | false =>
  have HE : Hid (GivesB w w4 (.returned (.bool false)) (e ∈ f.es)) := ⟨false, rfl, ⟨fun h => (by cases h), fun h => by have := (Hmem.out.2 h).1; cases this⟩, HB4.out⟩
  go_wp2_with fail
  go_ret
  exact HE.out
 | true =>
  have HE : Hid (GivesB w w4 (.returned (.bool z)) (e ∈ f.es)) := ⟨z, rfl, ⟨fun h => Hmem.out.1 ⟨rfl, Hz.out.1 h⟩, fun h => Hz.out.2 (Hmem.out.2 h).2⟩, HB4.out⟩
  go_wp2_with fail
  go_ret
  exact HE.out
end
section
open Go.RowKit
attribute [local go_sem ↓] ldP_eq stP_eq ldFa_eq stFa_eq ldRe_eq stRe_eq
attribute [local go_sem] cells_PV PC_size cells_FaV FaC_size zero_FaZ cells_ReV ReC_size zero_ReC
theorem hasRec_any (f : Fc) (r : Rc) (w : World) (hF : FcOk w f) (hr : RcOk w r) :
  Calls Tryz.prog 46 #[FaV (mkF f), ReV (mkR r)] w fun x w' => GivesB w w' x (rck r ∈ plR f.rs) := by
 have b1 := below_new w (.cells (FaC (mkF f)) 29)
 have X1 := FaBox_new w (mkF f)
 obtain ⟨w1, hw1⟩ : ∃ w1, w.alloc (.cells (FaC (mkF f)) 29) = w1 := ⟨_, rfl⟩
 have hs1 : w1.heap.size = w.heap.size + 1 := by rw [<- hw1]; simp
 rw [hw1] at b1 X1
 have b2 := below_new w1 (.cells (ReC (mkR r)) 62)
 have x2 := ReBox_new w1 (mkR r)
 obtain ⟨w2, hw2⟩ : ∃ w2, w1.alloc (.cells (ReC (mkR r)) 62) = w2 := ⟨_, rfl⟩
 rw [hw2] at b2 x2
 rw [hs1] at x2
 obtain ⟨G, hG0⟩ : ∃ G, w.heap.size = G := ⟨_, rfl⟩
 rw [hG0] at X1 x2 hs1
 have HX := hide (X1.below b2)
 have HY := hide x2
 have HBK := hide (b1.trans (b2.mono b1.size))
 have HQ := hide (hr.below HBK.out)
 have HF0 := hF.below HBK.out
 obtain ⟨n, hn⟩ : ∃ n, f.rn = n := ⟨_, rfl⟩
 obtain ⟨ao, hao⟩ : ∃ a, f.ro = a := ⟨_, rfl⟩
 obtain ⟨c, hc⟩ : ∃ a, f.rc = a := ⟨_, rfl⟩
 have HS : Hid (RcS w2 ao n c f.rs) := by rw [<- hn, <- hao, <- hc]; exact HF0.rs
 have HCs : Hid (∀ W, FaBox W G (mkF f) -> W.cell? ⟨G, 3, none⟩ = some (.slice ao n c)) := fun W h => by rw [<- hn, <- hao, <- hc]; exact h.cs.2
 have HLn : Hid (f.rs.length = n) := HS.out.len
 have hnb := HS.out.big
 clear hF hr b1 b2 X1 x2 HF0 hn hao hc
 go_enter Tryz.func46, Tryz.ntmps46
 go_wp2_with fail
 clear hw1 hw2 hs1 hG0
 go_loopw [5] (fun i wr => ∃ k : Nat, k <= n /\ i = .int .i64 k /\ Hid (rck r ∉ plR (f.rs.take k) /\ Below w2.heap.size w2 wr)) (fun i _ => n - (intOf i).toNat)
 case atStart => exact ⟨0, Nat.zero_le _, rfl, (by simp [plR]), Below.refl _ _⟩
 case round =>
  obtain ⟨k, hk, rfl, HK⟩ := hrel
  rename World => wr
  have c3 := HCs.out _ (HX.out.below HK.out.2)
  by_cases hlt : k < n
  ·have hlti : (k : Int) < (n : Int) := by omega
   obtain ⟨ad, hao, A0⟩ := (HS.out.below HK.out.2).at k hlt
   subst hao
   obtain ⟨b1, o1, rfl⟩ := HS.out.spot (by omega)
   have HO1 := (HS.out.below HK.out.2).okAt k hlt
   have hkL : k < f.rs.length := by rw [HLn.out]; exact hlt
   have ht1 := takeR_snoc f.rs k hkL
   obtain ⟨x, Hx⟩ : ∃ x, Hid (f.rs.getD k rc0 = x) := ⟨_, rfl⟩
   have hin : x ∈ f.rs := by rw [<- Hx.out]; exact rcD_mem hkL
   rw [Hx.out] at A0 HO1 ht1
   rw [Addr.add_lit] at A0
   have HA := hide A0
   have HO := hide HO1
   have Hin : Hid (rck x ∈ plR f.rs) := List.mem_map.2 ⟨x, hin, rfl⟩
   have HNx : Hid (rck x ≠ rck r -> rck r ∉ plR (f.rs.take (k + 1))) := fun hne h => by
    rw [ht1, plR_sn, List.mem_append, List.mem_singleton] at h
    rcases h with h | h
    ·exact HK.out.1 h
    ·exact hne h.symm
   have Hlt := hide hlt
   have HSt : Hid (∀ v : World, Below wr.heap.size wr v -> (v.cell? ⟨G, 3, none⟩ = some (.slice (some ⟨b1, o1, none⟩) n c) /\ v.cell? ⟨b1, o1 + k * 3, none⟩ = some (.string x.s) /\ v.cell? ⟨G + 1, 0, none⟩ = some (.string r.s)) /\ (ldP (.pointer (some ⟨b1, o1 + k * 3 + 1, none⟩))).run Tryz.prog v = .ok (PV x.p) v /\ (ldP (.pointer (some ⟨G + 1, 1, none⟩))).run Tryz.prog v = .ok (PV r.p) v) := fun v h => ⟨⟨HCs.out _ ((HX.out.below HK.out.2).below h), (HA.out.on h).flat.1, ((HY.out.below HK.out.2).below h).sk⟩, run_ldP (HA.out.on h).flat.2, run_ldP ((HY.out.below HK.out.2).below h).past⟩
   clear A0 HO1 ht1 hin hlt hk hkL
   go_upto_region 4 with fail
   refine wp_region_held_drew (S := fun v => (v.cell? ⟨G, 3, none⟩ = some (.slice (some ⟨b1, o1, none⟩) n c) /\ v.cell? ⟨b1, o1 + k * 3, none⟩ = some (.string x.s) /\ v.cell? ⟨G + 1, 0, none⟩ = some (.string r.s)) /\ (ldP (.pointer (some ⟨b1, o1 + k * 3 + 1, none⟩))).run Tryz.prog v = .ok (PV x.p) v /\ (ldP (.pointer (some ⟨G + 1, 1, none⟩))).run Tryz.prog v = .ok (PV r.p) v) (by kernel_rfl) (HSt.out _ (below_drew1 wr)) (fun hHeld => ?_)
   refine wTk 0 ⟨some 13, .fieldAddr 29 (.tmp 2) 2, 0, "ref.go:58", #[], none⟩ rfl ?_
   refine wTk 1 ⟨some 14, .load 27 (.tmp 13), 27, "ref.go:58", #[⟨0, .data⟩], none⟩ rfl ?_
   refine wTk 2 ⟨some 15, .move (.tmp 5), 3, "ref.go:58", #[], none⟩ rfl ?_
   refine wTk 3 ⟨some 16, .indexAddr 27 (.tmp 14) (.tmp 15), 0, "ref.go:58", #[⟨1, .data⟩, ⟨2, .data⟩], none⟩ rfl ?_
   refine wTk 4 ⟨some 17, .fieldAddr 62 (.tmp 16) 0, 0, "ref.go:58", #[⟨3, .data⟩], none⟩ rfl ?_
   refine wTk 5 ⟨some 18, .load 9 (.tmp 17), 9, "ref.go:58", #[⟨4, .data⟩], none⟩ rfl ?_
   refine wTk 6 ⟨some 19, .fieldAddr 62 (.tmp 3) 0, 0, "ref.go:58", #[], none⟩ rfl ?_
   refine wTk 7 ⟨some 20, .load 9 (.tmp 19), 9, "ref.go:58", #[⟨6, .data⟩], none⟩ rfl ?_
   by_cases hs : x.s = r.s
   ·have hsb : (x.s.toList == r.s.toList) = true := by rw [hs]; simp
    have HSs := hide hs
    clear hs
    refine wTk 8 ⟨some 21, .binOp .eql 9 (.tmp 18) (.tmp 20) 9, 4, "ref.go:58", #[⟨5, .data⟩, ⟨7, .data⟩], none⟩ rfl ?_
    refine wTk 9 ⟨some 22, .move (.tmp 21), 4, "ref.go:58", #[⟨8, .data⟩], none⟩ rfl ?_
    refine wTk 10 ⟨some 23, .fieldAddr 29 (.tmp 2) 2, 0, "ref.go:58", #[⟨9, .guard⟩], some (9, true)⟩ rfl ?_
    refine wTk 11 ⟨some 24, .load 27 (.tmp 23), 27, "ref.go:58", #[⟨10, .data⟩, ⟨9, .guard⟩], some (9, true)⟩ rfl ?_
    refine wTk 12 ⟨some 25, .move (.tmp 5), 3, "ref.go:58", #[⟨9, .guard⟩], some (9, true)⟩ rfl ?_
    refine wTk 13 ⟨some 26, .indexAddr 27 (.tmp 24) (.tmp 25), 0, "ref.go:58", #[⟨11, .data⟩, ⟨12, .data⟩, ⟨9, .guard⟩], some (9, true)⟩ rfl ?_
    refine wTk 14 ⟨some 27, .fieldAddr 62 (.tmp 26) 1, 0, "ref.go:58", #[⟨13, .data⟩, ⟨9, .guard⟩], some (9, true)⟩ rfl ?_
    refine wTk 15 ⟨some 28, .load 26 (.tmp 27), 26, "ref.go:58", #[⟨14, .data⟩, ⟨9, .guard⟩], some (9, true)⟩ rfl ?_
    refine wTk 16 ⟨some 29, .fieldAddr 62 (.tmp 3) 1, 0, "ref.go:58", #[⟨9, .guard⟩], some (9, true)⟩ rfl ?_
    refine wTk 17 ⟨some 30, .load 26 (.tmp 29), 26, "ref.go:58", #[⟨16, .data⟩, ⟨9, .guard⟩], some (9, true)⟩ rfl ?_
    refine wpAnyH_ready (rs := [18]) (by kernel_rfl) (by simp) (.cons rfl (fun K hK => ?_) .nil)
    go_simp
    go_wp2_with fail
    refine (samePast_any x.p r.p _ (HO.out.1.below (below_drew1 wr)) (((HQ.out.below HK.out.2).below (below_drew1 wr)).1)).mono ?_
    rintro e w7 ⟨z, rfl, hz, b7⟩
    have hB7 : Below wr.heap.size wr w7 := (below_drew1 wr).trans b7
    have HB7 := hide (HK.out.2.trans (hB7.mono HK.out.2.size))
    have HS7 := hide (HSt.out _ hB7)
    refine hK.out _ _ HS7.out (fun hHeld => ?_)
    clear hK K b7 hB7
    cases z with
    | true =>
     have HE : Hid (GivesB w w7 (.returned (.bool true)) (rck r ∈ plR f.rs)) := ⟨true, rfl, ⟨fun _ => by have h : rck x = rck r := Prod.ext HSs.out (hz.1 rfl); rw [<- h]; exact Hin.out, fun _ => rfl⟩, HBK.out.trans (HB7.out.mono HBK.out.size)⟩
     clear hz
     refine wTk 19 ⟨some 32, .pick (.tmp 22) (.tmp 31) (.const (.bool false)), 4, "ref.go:58", #[⟨9, .data⟩, ⟨18, .data⟩], none⟩ rfl ?_
     refine wpAnyH_done (by kernel_rfl) ?_ _
     clear hHeld
     go_wp2_with fail
     go_ret
     exact HE.out
    | false =>
     have HN := hide (HNx.out (fun h => by have := hz.2 (congrArg Prod.snd h); cases this))
     clear hz
     refine wTk 19 ⟨some 32, .pick (.tmp 22) (.tmp 31) (.const (.bool false)), 4, "ref.go:58", #[⟨9, .data⟩, ⟨18, .data⟩], none⟩ rfl ?_
     refine wpAnyH_done (by kernel_rfl) ?_ _
     clear hHeld
     go_wp2_with fail
     clear c3
     go_roundw
     case rel => exact ⟨k + 1, Hlt.out, by have := Hlt.out; simp, HN.out, HB7.out⟩
     case measure => simp [intOf]; have := Hlt.out; omega
   ·have hsb : (x.s.toList == r.s.toList) = false := by rw [beq_eq_false_iff_ne]; exact fun h => hs (list_ext h)
    have HN := hide (HNx.out (fun h => hs (congrArg Prod.fst h)))
    clear hs
    refine wTk 8 ⟨some 21, .binOp .eql 9 (.tmp 18) (.tmp 20) 9, 4, "ref.go:58", #[⟨5, .data⟩, ⟨7, .data⟩], none⟩ rfl ?_
    refine wTk 9 ⟨some 22, .move (.tmp 21), 4, "ref.go:58", #[⟨8, .data⟩], none⟩ rfl ?_
    refine wSk 10 ⟨some 23, .fieldAddr 29 (.tmp 2) 2, 0, "ref.go:58", #[⟨9, .guard⟩], some (9, true)⟩ rfl ?_
    refine wSk 11 ⟨some 24, .load 27 (.tmp 23), 27, "ref.go:58", #[⟨10, .data⟩, ⟨9, .guard⟩], some (9, true)⟩ rfl ?_
    refine wSk 12 ⟨some 25, .move (.tmp 5), 3, "ref.go:58", #[⟨9, .guard⟩], some (9, true)⟩ rfl ?_
    refine wSk 13 ⟨some 26, .indexAddr 27 (.tmp 24) (.tmp 25), 0, "ref.go:58", #[⟨11, .data⟩, ⟨12, .data⟩, ⟨9, .guard⟩], some (9, true)⟩ rfl ?_
    refine wSk 14 ⟨some 27, .fieldAddr 62 (.tmp 26) 1, 0, "ref.go:58", #[⟨13, .data⟩, ⟨9, .guard⟩], some (9, true)⟩ rfl ?_
    refine wSk 15 ⟨some 28, .load 26 (.tmp 27), 26, "ref.go:58", #[⟨14, .data⟩, ⟨9, .guard⟩], some (9, true)⟩ rfl ?_
    refine wSk 16 ⟨some 29, .fieldAddr 62 (.tmp 3) 1, 0, "ref.go:58", #[⟨9, .guard⟩], some (9, true)⟩ rfl ?_
    refine wSk 17 ⟨some 30, .load 26 (.tmp 29), 26, "ref.go:58", #[⟨16, .data⟩, ⟨9, .guard⟩], some (9, true)⟩ rfl ?_
    refine wSk 18 ⟨some 31, .call ⟨.value (.func 40), #[.tmp 28, .tmp 30], #[26, 26]⟩, 4, "ref.go:58", #[⟨15, .data⟩, ⟨17, .data⟩, ⟨9, .chain⟩, ⟨9, .guard⟩], some (9, true)⟩ rfl ?_
    refine wTk 19 ⟨some 32, .pick (.tmp 22) (.tmp 31) (.const (.bool false)), 4, "ref.go:58", #[⟨9, .data⟩, ⟨18, .data⟩], none⟩ rfl ?_
    refine wpAnyH_done (by kernel_rfl) ?_ _
    clear hHeld
    have HB7 := hide (HK.out.2.trans ((below_drew1 wr).mono HK.out.2.size))
    go_wp2_with fail
    clear c3
    go_roundw
    case rel => exact ⟨k + 1, Hlt.out, by have := Hlt.out; simp, HN.out, HB7.out⟩
    case measure => simp [intOf]; have := Hlt.out; omega
  ·have hlti : ¬ (k : Int) < (n : Int) := by omega
   have HE : Hid (GivesB w wr (.returned (.bool false)) (rck r ∈ plR f.rs)) := by
    have h := HK.out.1
    rw [List.take_of_length_le (by rw [HLn.out]; omega)] at h
    exact ⟨false, rfl, ⟨fun h => (by cases h), fun q => absurd q h⟩, HBK.out.trans (HK.out.2.mono HBK.out.size)⟩
   go_wp2_with fail
   go_ret
   exact HE.out
end
section

def tin (t : List Int) (n : Int) : Bool := decide (cnt t n % 2 = 1)
theorem cnt_cons (x : Int) (t : List Int) (n : Int) : cnt (x :: t) n = (if x <= n then 1 else 0) + cnt t n := by
 have : x :: t = [x] ++ t := rfl
 rw [this, cnt_append, cnt_one]
theorem tn_in : ∀ {R : List Rn} {l : Int}, form l R -> ∀ x, x ∈ tn R -> l <= x /\ x <= 1000000001
 | [], _, _, x, h => by cases h
 | r :: t, l, h, x, hx => by
  have h1 := h.1
  have h2 := h.2.1
  have h3 := h.2.2.1
  rcases List.mem_cons.1 hx with e | e
  ·subst e; omega
  ·rcases List.mem_cons.1 e with e | e
   ·subst e; omega
   ·have := tn_in h.2.2.2 x e
    omega
theorem tn_rise : ∀ {R : List Rn} {l : Int}, form l R -> (tn R).Pairwise (· < ·)
 | [], _, _ => List.Pairwise.nil
 | r :: t, l, h => by
  have h2 := h.2.1
  refine List.pairwise_cons.2 ⟨fun x hx => ?_, List.pairwise_cons.2 ⟨fun x hx => ?_, tn_rise h.2.2.2⟩⟩
  ·rcases List.mem_cons.1 hx with e | e
   ·subst e; omega
   ·have := (tn_in h.2.2.2 x e).1
    omega
  ·have := (tn_in h.2.2.2 x hx).1
   omega
theorem tin_tn : ∀ {R : List Rn} {l : Int}, form l R -> ∀ n, (tin (tn R) n = true ↔ inR R n)
 | [], _, _, n => by simp [tin, tn, cnt, inR]
 | r :: t, l, h, n => by
  have ih := tin_tn h.2.2.2 n
  have h2 := h.2.1
  have key : inR (r :: t) n ↔ (r.lo <= n /\ n <= r.hi) ∨ inR t n := by unfold inR; simp
  rw [key, <- ih]
  unfold tin
  simp only [decide_eq_true_eq]
  show cnt (r.lo :: (r.hi + 1) :: tn t) n % 2 = 1 ↔ _
  rw [cnt_cons, cnt_cons]
  by_cases a1 : r.hi + 1 <= n
  ·rw [if_pos a1, if_pos (by omega)]
   constructor
   ·intro g; exact Or.inr (by omega)
   ·rintro (g | g) <;> omega
  ·have hz : cnt (tn t) n = 0 := cnt_none (fun x hx => by have := (tn_in h.2.2.2 x hx).1; omega)
   rw [if_neg a1, hz]
   by_cases a2 : r.lo <= n
   ·rw [if_pos a2]
    exact ⟨fun _ => Or.inl ⟨a2, by omega⟩, fun _ => rfl⟩
   ·rw [if_neg a2]
    constructor
    ·intro g; omega
    ·rintro (g | g) <;> omega
theorem tn_of : ∀ (k : Nat) {t : List Int} {l : Int}, t.length = 2 * k -> t.Pairwise (· < ·) -> (∀ x, x ∈ t -> l <= x /\ x <= 1000000001) -> ∃ R, form l R /\ tn R = t
 | 0, t, l, he, _, _ => by
  obtain rfl : t = [] := List.eq_nil_of_length_eq_zero (by omega)
  exact ⟨[], trivial, rfl⟩
 | k + 1, [], l, he, _, _ => by simp at he
 | k + 1, [a], l, he, _, _ => by simp at he; omega
 | k + 1, a :: b :: t, l, he, hp, hb => by
  obtain ⟨p1, p2⟩ := List.pairwise_cons.1 hp
  obtain ⟨p3, p4⟩ := List.pairwise_cons.1 p2
  have hab := p1 b List.mem_cons_self
  have ha := hb a List.mem_cons_self
  have hbb := hb b (List.mem_cons_of_mem _ List.mem_cons_self)
  obtain ⟨R, hR, e⟩ := tn_of k (t := t) (l := b + 1) (by simp at he; omega) p4 (fun x hx => ⟨by have := p3 x hx; omega, (hb x (List.mem_cons_of_mem _ (List.mem_cons_of_mem _ hx))).2⟩)
  refine ⟨⟨a, b - 1⟩ :: R, ⟨ha.1, by show a <= b - 1; omega, by show b - 1 <= 1000000000; omega, ?_⟩, ?_⟩
  ·have e2 : b - 1 + 2 = b + 1 := by omega
   show form (b - 1 + 2) R
   rw [e2]; exact hR
  ·show a :: (b - 1 + 1) :: tn R = _
   rw [e, Int.sub_add_cancel]
def rul (k : Int) (x y : Bool) : Bool := (k == 1 && x && y) || (k == 2 && x && !y)
theorem rul_ff (k : Int) (y : Bool) : rul k false y = false := by simp [rul]
structure CbI (k : Int) (A B : List Int) (i j : Nat) (t : List Int) (b : Bool) : Prop where
 hi : i <= A.length
 hj : j <= B.length
 tr : t.Pairwise (· < ·)
 tl : ∀ x, x ∈ t -> x ∈ A.take i ++ B.take j
 lt : ∀ x, x ∈ A.take i ++ B.take j -> ∀ y, y ∈ A.drop i ++ B.drop j -> x < y
 ev : ∀ n, tin t n = rul k (tin (A.take i) n) (tin (B.take j) n)
 nw : b = decide (t.length % 2 = 1)
theorem CbI.start (k : Int) (A B : List Int) : CbI k A B 0 0 [] false :=
 ⟨Nat.zero_le _, Nat.zero_le _, List.Pairwise.nil, (fun x h => by cases h), (fun x h => by simp at h), fun n => by simp [tin, cnt, rul], rfl⟩
theorem tin_all {L : List Int} {n : Int} (h : ∀ x, x ∈ L -> x <= n) : tin L n = decide (L.length % 2 = 1) := by unfold tin; rw [cnt_all h]
theorem tin_pre {L M : List Int} {n : Int} (h : ∀ x, x ∈ M -> n < x) : tin (L ++ M) n = tin L n := by unfold tin; rw [cnt_append, cnt_none h, Nat.add_zero]
theorem CbI.step {k : Int} {A B : List Int} {i j i' j' : Nat} {t : List Int} {b : Bool} {at' : Int} (S : CbI k A B i j t b)
  (hA : A.Pairwise (· < ·)) (hB : B.Pairwise (· < ·))
  (ha : (A[i]? = some at' /\ i' = i + 1) ∨ ((∀ x, A[i]? = some x -> at' < x) /\ i' = i))
  (hb : (B[j]? = some at' /\ j' = j + 1) ∨ ((∀ x, B[j]? = some x -> at' < x) /\ j' = j))
  (hs : A[i]? = some at' ∨ B[j]? = some at') :
  (rul k (decide (i' % 2 = 1)) (decide (j' % 2 = 1)) = b -> CbI k A B i' j' t b) /\ (rul k (decide (i' % 2 = 1)) (decide (j' % 2 = 1)) ≠ b -> CbI k A B i' j' (t ++ [at']) (!b)) := by
 have step1 : ∀ (L : List Int) (u u' : Nat), L.Pairwise (· < ·) -> u <= L.length -> ((L[u]? = some at' /\ u' = u + 1) ∨ ((∀ x, L[u]? = some x -> at' < x) /\ u' = u)) ->
   u' <= L.length /\ (∃ M, L.take u' = L.take u ++ M /\ ∀ x, x ∈ M -> x = at') /\ (∀ y, y ∈ L.drop u' -> at' < y) /\ (∀ y, y ∈ L.drop u' -> y ∈ L.drop u) := by
  intro L u u' hL hu h
  have hdrop : ∀ v x, L[v]? = some x -> ∀ y, y ∈ L.drop (v + 1) -> x < y := by
   intro v x hx y hy
   have hp : (L.drop v).Pairwise (· < ·) := hL.sublist (List.drop_sublist _ _)
   rw [(take_on' L v x hx).2] at hp
   exact (List.pairwise_cons.1 hp).1 y hy
  rcases h with ⟨h1, rfl⟩ | ⟨h1, rfl⟩
  ·have hl := (List.getElem?_eq_some_iff.1 h1).1
   obtain ⟨t1, t2⟩ := take_on' L u at' h1
   exact ⟨hl, ⟨[at'], t1, fun x hx => List.mem_singleton.1 hx⟩, hdrop u at' h1, fun y hy => by rw [t2]; exact List.mem_cons_of_mem _ hy⟩
  ·refine ⟨hu, ⟨[], by simp, fun x hx => by cases hx⟩, fun y hy => ?_, fun y hy => hy⟩
   cases hx : L[u']? with
   | none => rw [List.drop_of_length_le (by simpa using hx)] at hy; cases hy
   | some x =>
    have h2 := h1 x hx
    rw [(take_on' L u' x hx).2] at hy
    rcases List.mem_cons.1 hy with e | e
    ·omega
    ·have := hdrop u' x hx y e
     omega
 obtain ⟨a1, ⟨MA, a2, a3⟩, a4, a5⟩ := step1 A i i' hA S.hi ha
 obtain ⟨b1, ⟨MB, b2, b3⟩, b4, b5⟩ := step1 B j j' hB S.hj hb
 have hat : at' ∈ A.drop i ++ B.drop j := by
  rcases hs with h | h
  ·exact List.mem_append_left _ (by rw [(take_on' A i at' h).2]; exact List.mem_cons_self)
  ·exact List.mem_append_right _ (by rw [(take_on' B j at' h).2]; exact List.mem_cons_self)
 have hatk : at' ∈ A.take i' ++ B.take j' := by
  rcases hs with h | h
  ·rcases ha with ⟨_, e⟩ | ⟨g, _⟩
   ·exact List.mem_append_left _ (by rw [e, (take_on' A i at' h).1]; exact List.mem_append_right _ (List.mem_singleton.2 rfl))
   ·have := g at' h; omega
  ·rcases hb with ⟨_, e⟩ | ⟨g, _⟩
   ·exact List.mem_append_right _ (by rw [e, (take_on' B j at' h).1]; exact List.mem_append_right _ (List.mem_singleton.2 rfl))
   ·have := g at' h; omega
 have hold : ∀ x, x ∈ A.take i ++ B.take j -> x < at' := fun x hx => S.lt x hx at' hat
 have hmono : ∀ x, x ∈ A.take i ++ B.take j -> x ∈ A.take i' ++ B.take j' := fun x hx => by
  rw [a2, b2]
  rcases List.mem_append.1 hx with g | g
  ·exact List.mem_append_left _ (List.mem_append_left _ g)
  ·exact List.mem_append_right _ (List.mem_append_left _ g)
 have hnew : ∀ x, x ∈ A.take i' ++ B.take j' -> x <= at' := fun x hx => by
  rw [a2, b2] at hx
  rcases List.mem_append.1 hx with g | g
  ·rcases List.mem_append.1 g with g | g
   ·have := hold x (List.mem_append_left _ g); omega
   ·have := a3 x g; omega
  ·rcases List.mem_append.1 g with g | g
   ·have := hold x (List.mem_append_right _ g); omega
   ·have := b3 x g; omega
 have hlt : ∀ x, x ∈ A.take i' ++ B.take j' -> ∀ y, y ∈ A.drop i' ++ B.drop j' -> x < y := fun x hx y hy => by
  have h1 := hnew x hx
  rcases List.mem_append.1 hy with g | g
  ·have := a4 y g; omega
  ·have := b4 y g; omega
 have htl : ∀ x, x ∈ t -> x < at' := fun x hx => hold x (S.tl x hx)
 have low : ∀ n, n < at' -> tin (A.take i') n = tin (A.take i) n /\ tin (B.take j') n = tin (B.take j) n := fun n hn => by
  rw [a2, b2]
  exact ⟨tin_pre (fun x hx => by rw [a3 x hx]; exact hn), tin_pre (fun x hx => by rw [b3 x hx]; exact hn)⟩
 have high : ∀ n, at' <= n -> tin (A.take i') n = decide (i' % 2 = 1) /\ tin (B.take j') n = decide (j' % 2 = 1) := fun n hn => by
  rw [tin_all (fun x hx => Int.le_trans (hnew x (List.mem_append_left _ hx)) hn), tin_all (fun x hx => Int.le_trans (hnew x (List.mem_append_right _ hx)) hn), List.length_take, List.length_take, Nat.min_eq_left a1, Nat.min_eq_left b1]
  exact ⟨rfl, rfl⟩
 refine ⟨fun he => ⟨a1, b1, S.tr, fun x hx => hmono x (S.tl x hx), hlt, fun n => ?_, S.nw⟩, fun hne => ⟨a1, b1, ?_, fun x hx => ?_, hlt, fun n => ?_, ?_⟩⟩
 ·by_cases hn : n < at'
  ·rw [(low n hn).1, (low n hn).2, S.ev n]
  ·rw [(high n (by omega)).1, (high n (by omega)).2, he, tin_all (fun x hx => by have := htl x hx; omega), S.nw]
 ·refine List.pairwise_append.2 ⟨S.tr, List.pairwise_singleton _ _, fun x hx y hy => ?_⟩
  obtain rfl := List.mem_singleton.1 hy
  exact htl x hx
 ·rcases List.mem_append.1 hx with g | g
  ·exact hmono x (S.tl x g)
  ·obtain rfl := List.mem_singleton.1 g
   exact hatk
 ·by_cases hn : n < at'
  ·rw [(low n hn).1, (low n hn).2, tin_pre (fun x hx => by rw [List.mem_singleton.1 hx]; exact hn), S.ev n]
  ·have hb' : rul k (decide (i' % 2 = 1)) (decide (j' % 2 = 1)) = !b := by
    revert hne
    cases rul k (decide (i' % 2 = 1)) (decide (j' % 2 = 1)) <;> cases b <;> simp
   rw [(high n (by omega)).1, (high n (by omega)).2, hb', tin_all (fun x hx => ?_), S.nw, List.length_append]
   ·show decide ((t.length + 1) % 2 = 1) = _
    by_cases h : t.length % 2 = 1
    ·rw [decide_eq_true h, decide_eq_false (by omega)]; rfl
    ·rw [decide_eq_false h, decide_eq_true (by omega)]; rfl
   ·rcases List.mem_append.1 hx with g | g
    ·have := htl x g; omega
    ·have := List.mem_singleton.1 g; omega
 ·rw [S.nw, List.length_append]
  show _ = decide ((t.length + 1) % 2 = 1)
  by_cases h : t.length % 2 = 1
  ·rw [decide_eq_true h, decide_eq_false (by omega)]; rfl
  ·rw [decide_eq_false h, decide_eq_true (by omega)]; rfl
def CombOf (k : Int) (a b c : List Rn) : Prop := form 1 c /\ ∀ n, mem c n ↔ ((k = 1 /\ mem a n /\ mem b n) ∨ (k = 2 /\ mem a n /\ ¬ mem b n))
theorem CbI.done {k : Int} {a b : List Rn} {t : List Int} {x : Bool} (ha : form 1 a) (hb : form 1 b) (S : CbI k (tn a) (tn b) (tn a).length (tn b).length t x) : ∃ c, t = tn c /\ CombOf k a b c := by
 have hev := S.ev
 simp only [List.take_length] at hev
 have hbd : ∀ z, z ∈ t -> 1 <= z /\ z <= 1000000001 := fun z hz => by
  have := S.tl z hz
  simp only [List.take_length] at this
  rcases List.mem_append.1 this with g | g
  ·exact tn_in ha z g
  ·exact tn_in hb z g
 have hlen : t.length % 2 = 0 := by
  have h1 := hev 1000000001
  rw [tin_all (fun z hz => (hbd z hz).2), tin_all (fun z hz => (tn_in ha z hz).2), tn_length] at h1
  rw [show decide (2 * a.length % 2 = 1) = false from decide_eq_false (by omega), rul_ff] at h1
  have := of_decide_eq_false h1
  omega
 obtain ⟨c, hc, e⟩ := tn_of (t.length / 2) (l := 1) (t := t) (by omega) S.tr hbd
 refine ⟨c, e.symm, hc, fun n => ?_⟩
 rw [mem_inR hc, mem_inR ha, mem_inR hb, <- tin_tn hc, <- tin_tn ha, <- tin_tn hb, e, hev n]
 unfold rul
 cases tin (tn a) n <;> cases tin (tn b) n <;> simp
end
end Go.Proofs.YtalpnhfoaohhhaaGreat
