/- ZDb PVw ZVb -/
import Derived.Test.YtbmjiedpaffifaaGreatDb42
import Derived.Test.YtbmjiedpaffifaaGreatDb00
import Derived.ProofKit
import Derived.OpenShut
import Derived.Lib.SmallJoins
import Derived.HandedShaped
import Derived.SizedLaws
import Derived.ChangeMaps5
import Derived.JoinedCond
import Derived.Test.YtbmjiedpaffifaaGreatDb35
import Derived.Test.YtbmjiedpaffifaaGreatDb17
namespace Go.Proofs.YtbmjiedpaffifaaGreat
open Go.RowKit
attribute [local go_sem ↓] ldDi_eq stDi_eq
attribute [local go_sem] cells_DiV DiC_size
variable {w w' w2 W W' : World} {g gv : Nat} {Z : List Int}

/-- what Put answers, in one piece -/
def PuF (w w' : World) (e : Ending) (H L : Pst) : Prop := ∃ bo n cc x Y, e = .returned (.tuple #[.slice bo n cc, .int .i64 x]) ∧ U.BS w' bo n cc Y ∧ Below w.heap.size w w' ∧ ((FormD H L ∧ x = 0 ∧ Y = digB H L) ∨ (¬ FormD H L ∧ x = 1 ∧ Y = []))
theorem PutD.flat {e : Ending} {H L : Pst} (h : PutD w w' e H L) : PuF w w' e H L := by
  rcases h with ⟨h1, h2, h3⟩ | ⟨h1, bo, cc, h2, h3, h4⟩
  · exact ⟨none, 0, 0, 1, [], h2, U.BS.nil_ _, h3, .inr ⟨h1, rfl, rfl⟩⟩
  · exact ⟨bo, _, cc, 0, _, h2, h3.bs, h4.1, .inl ⟨h1, rfl, rfl⟩⟩
/-- what Get answers, in one piece -/
def GeF (w w' : World) (r : Ending) (Z : List Int) : Prop := ∃ (d : Dg) (x : Int), r = .returned (.tuple #[DiV (mkD d), .int .i64 x]) ∧ DgOk w' d ∧ Below w.heap.size w w' ∧ ((x = 0 ∧ FormD d.h.P d.l.P ∧ Z = digB d.h.P d.l.P) ∨ (x = 8 ∧ (∀ H L, FormD H L → Z ≠ digB H L) ∧ d = dg0))
theorem dgok_zero (w : World) : DgOk w dg0 := ⟨PSrc.zero _, PSrc.zero _⟩
theorem GqD.flat {r : Ending} (h : GqD w w' Z r) : GeF w w' r Z := by
  obtain ⟨b, h⟩ := h
  rcases h with ⟨d, h1, h2, h3, h4⟩ | ⟨h1, h2⟩
  · exact ⟨d, 0, h3, h4, b, .inl ⟨rfl, h1, h2⟩⟩
  · exact ⟨dg0, 8, h2, dgok_zero _, b, .inr ⟨rfl, h1, rfl⟩⟩
theorem GpD.flat {r : Ending} (h : GpD w w' Z r) : GeF w w' r Z := by
  obtain ⟨b, h⟩ := h
  rcases h with ⟨d, h1, h2, h3, h4, h5⟩ | ⟨h1, h2⟩
  · exact ⟨d, 0, h3, ⟨h4.src, h5.src⟩, b, .inl ⟨rfl, h1, h2⟩⟩
  · exact ⟨dg0, 8, h2, dgok_zero _, b, .inr ⟨rfl, h1, rfl⟩⟩
theorem geF_one {d d' : Dg} {x x' : Int} (h : (x = 0 ∧ FormD d.h.P d.l.P ∧ Z = digB d.h.P d.l.P) ∨ (x = 8 ∧ (∀ H L, FormD H L → Z ≠ digB H L) ∧ d = dg0)) (h' : (x' = 0 ∧ FormD d'.h.P d'.l.P ∧ Z = digB d'.h.P d'.l.P) ∨ (x' = 8 ∧ (∀ H L, FormD H L → Z ≠ digB H L) ∧ d' = dg0)) : x = x' ∧ d.h.P = d'.h.P ∧ d.l.P = d'.l.P := by
  rcases h with ⟨rfl, h1, h2⟩ | ⟨rfl, h1, rfl⟩
  · rcases h' with ⟨rfl, h3, h4⟩ | ⟨-, h3, -⟩
    · obtain ⟨e1, e2, -⟩ := dig_cut (R := []) h1.1 h3.1 h1.2.1 h3.2.1 (by rw [← h2, h4, List.append_nil]; rfl)
      exact ⟨rfl, e1, e2⟩
    · exact absurd h2 (h3 _ _ h1)
  · rcases h' with ⟨-, h3, h4⟩ | ⟨rfl, -, rfl⟩
    · exact absurd h4 (h1 _ _ h3)
    · exact ⟨rfl, rfl, rfl⟩
theorem six_str : strOfNums [2, 0, 0, 2, 0, 0] = ⟨#[2, 0, 0, 2, 0, 0]⟩ := by rfl
set_option maxRecDepth 100000 in
set_option maxHeartbeats 3200000 in
theorem digestBytes_any (d : Dg) (ro : Option Addr) (rn rc : Nat) (Z : List Int) (w : World) (hD : DgOk w d) (S : U.Src w ro rn rc Z) (hcap : rn ≤ rc) (hz : rn ≤ 3000000000) :
    Calls Tryz.prog 3 #[DiV (mkD d), .slice ro rn rc] w fun e w' => e = .returned (.bool true) ∧ Below w.heap.size w w' := by
  have HX := hide (DiBox_new w (mkD d))
  have HB := hide (below_new w (.cells (DiC (mkD d)) 27))
  have HD := hide (hD.below HB.out)
  have HS := hide (S.below HB.out)
  have HN : Hid (rn ≤ rc ∧ rn ≤ 3000000000) := ⟨hcap, hz⟩
  clear hD S hcap hz
  obtain ⟨w1, hw1⟩ : ∃ w1, w.alloc (.cells (DiC (mkD d)) 27) = w1 := ⟨_, rfl⟩
  obtain ⟨G, hG⟩ : ∃ G, w.heap.size = G := ⟨_, rfl⟩
  rw [hw1] at HX HB HD HS
  rw [hG] at HX
  have HC0 : Hid (Calls Tryz.prog 4 #[.agg #[.slice none 0 0, .slice none 0 0, .slice none 0 0, .slice none 0 0]] w1 fun e w' => PutD w1 w' e pv0.P pv0.P) := dput_any dg0 w1 (dgok_zero _)
  go_enter Tryz.func3, Tryz.ntmps3
  go_wp2_with fail
  clear hw1 hG
  refine HC0.out.mono ?_
  rintro e w2 he
  obtain ⟨b0, n0, c0, x0, Y0, rfl, hY0, b2, hc⟩ := he.flat
  obtain ⟨rfl, rfl⟩ : x0 = 0 ∧ Y0 = [2, 0, 0, 2, 0, 0] := by
    rcases hc with ⟨-, h1, h2⟩ | ⟨h1, -⟩
    · exact ⟨h1, by rw [h2]; exact dig_zero⟩
    · exact absurd formD_zero h1
  have cv0 := hY0.str
  rw [six_str] at cv0
  have HB2 := hide (HB.out.trans (b2.mono HB.out.size))
  have HX2 := hide (HX.out.below b2)
  have HD2 := hide (HD.out.below b2)
  have HS2 := hide (HS.out.below b2)
  have l2 := run_ldDi HX2.out
  clear he hY0 b2 hc HC0 HX HB HD HS
  go_wp2_with fail
  refine (rput14_any d _ HD2.out).mono ?_
  rintro e w3 he
  obtain ⟨b3, n3, c3, x3, Y3, rfl, hY3, bb3, hc3⟩ := he.flat
  have HB3 := hide (HB2.out.trans (bb3.mono HB2.out.size))
  have HX3 := hide (HX2.out.below bb3)
  have HD3 := hide (HD2.out.below bb3)
  have HS3 := hide (HS2.out.below bb3)
  have HY3 := hide hY3
  have HC3 := hide hc3
  have l3 := run_ldDi HX3.out
  clear he hY3 bb3 hc3 cv0 l2 HB2 HX2 HD2 HS2
  go_wp2_with fail
  refine (dput_any d _ HD3.out).mono ?_
  rintro e w4 he
  obtain ⟨b4, n4, c4, x4, Y4, rfl, hY4, bb4, hc4⟩ := he.flat
  obtain ⟨rfl, rfl⟩ : x4 = x3 ∧ Y4 = Y3 := by
    rcases hc4 with ⟨h1, h2, h3⟩ | ⟨h1, h2, h3⟩ <;> rcases HC3.out with ⟨h4, h5, h6⟩ | ⟨h4, h5, h6⟩
    · exact ⟨by rw [h2, h5], by rw [h3, h6]⟩
    · exact absurd h1 h4
    · exact absurd h4 h1
    · exact ⟨by rw [h2, h5], by rw [h3, h6]⟩
  have HB4 := hide (HB3.out.trans (bb4.mono HB3.out.size))
  have HS4 := hide (HS3.out.below bb4)
  have cv3 := (HY3.out.below bb4).str
  have cv4 := hY4.str
  obtain ⟨s4, hs4⟩ : ∃ s4, strOfNums Y4 = s4 := ⟨_, rfl⟩
  rw [hs4] at cv3 cv4
  have hxx : (x4 != x4) = false := by simp
  have hss : (!s4.toList == s4.toList) = false := by simp
  clear he hY4 bb4 hc4 l3 HB3 HX3 HD3 HS3 HY3 HC3 hs4
  go_wp2_with fail
  refine (rget14_any ro rn rc Z _ HS4.out HN.out.1 HN.out.2).mono ?_
  rintro e w5 he
  obtain ⟨d5, x5, rfl, hd5, bb5, hc5⟩ := he.flat
  obtain ⟨g5, hg5⟩ : ∃ g5, w5.heap.size = g5 := ⟨_, rfl⟩
  obtain ⟨w6, hst6, B6, b6, -⟩ := madeDi w5 (mkD d5) g5 hg5
  replace hst6 : (stDi (.pointer (some ⟨g5, 0, none⟩)) (DiV (mkD d5))).run Tryz.prog (w5.alloc (.cells #[.slice none 0 0, .slice none 0 0, .slice none 0 0, .slice none 0 0] 27)) = .ok () w6 := hst6
  have bb6 := bb5.trans (b6.mono bb5.size)
  have HB6 := hide (HB4.out.trans (bb6.mono HB4.out.size))
  have HS6 := hide (HS4.out.below bb6)
  have HD6 : Hid (DgOk w6 d5 ∧ DiBox w6 g5 (mkD d5)) := ⟨hd5.below b6, B6⟩
  have HC6 := hide hc5
  clear he hd5 bb5 hc5 B6 b6 bb6 cv3 cv4 hss hxx HB4 HS4
  go_wp2_with fail
  clear hst6 hg5
  refine (dget_any ro rn rc Z _ HS6.out HN.out.1 (by have := HN.out.2; omega)).mono ?_
  rintro e w7 he
  obtain ⟨d7, x7, rfl, hd7, bb7, hc7⟩ := he.flat
  obtain ⟨rfl, eh, el⟩ := geF_one hc7 HC6.out
  obtain ⟨g7, hg7⟩ : ∃ g7, w7.heap.size = g7 := ⟨_, rfl⟩
  obtain ⟨w8, hst8, B8, b8, -⟩ := madeDi w7 (mkD d7) g7 hg7
  replace hst8 : (stDi (.pointer (some ⟨g7, 0, none⟩)) (DiV (mkD d7))).run Tryz.prog (w7.alloc (.cells #[.slice none 0 0, .slice none 0 0, .slice none 0 0, .slice none 0 0] 27)) = .ok () w8 := hst8
  have bb8 := bb7.trans (b8.mono bb7.size)
  have HB8 := hide (HB6.out.trans (bb8.mono HB6.out.size))
  have l8 := run_ldDi (HD6.out.2.below bb8)
  have l9 := run_ldDi B8
  have HD8 : Hid (DgOk w8 d5 ∧ DgOk w8 d7 ∧ d5.h.P = d7.h.P ∧ d5.l.P = d7.l.P) := ⟨HD6.out.1.below bb8, hd7.below b8, eh.symm, el.symm⟩
  have hxx : (x7 == x7) = true := by simp
  clear he hd7 bb7 hc7 B8 b8 bb8 eh el HC6 HD6 HB6 HS6
  go_wp2_with fail
  clear hst8 hg7
  refine (requal14_any d5 d7 _ HD8.out.1 HD8.out.2.1).mono ?_
  rintro e w9 ⟨b, rfl, hb, b9⟩
  obtain rfl : b = true := hb.2 HD8.out.2.2
  have HB9 := hide (HB8.out.trans (b9.mono HB8.out.size))
  clear hb b9 l8 l9
  go_wp2_with fail
  go_ret
  exact ⟨rfl, HB9.out⟩
end Go.Proofs.YtbmjiedpaffifaaGreat
namespace Go.Proofs.YtbmjiedpaffifaaGreat
open Go.ChangeShapes Go.WideShapes Go.ChangeAt Go.RowKit Go.Joins

theorem own : ownKnob Tryz.prog.godebug = none := by kernel_rfl
theorem laidOut : laidOutB Tryz.prog = true := by kernel_rfl
theorem cellsS : Tryz.prog.cellsOf 62 = 3 := by kernel_rfl
theorem cellsI : Tryz.prog.cellsOf 3 = 1 := by kernel_rfl
theorem cellsP : Tryz.prog.cellsOf 25 = 2 := by kernel_rfl
theorem cellsV : Tryz.prog.cellsOf 22 = 1 := by kernel_rfl
theorem cellsC : Tryz.prog.cellsOf 23 = 1 := by kernel_rfl
theorem bulk_pos {H : Type} (d : DataW H) : 1 ≤ Rows.uptoBulk d := by
  cases d with
  | lit l => cases l <;> simp only [Rows.uptoBulk] <;> omega
  | _ => simp only [Rows.uptoBulk] <;> omega
theorem bulk_len {H : Type} : ∀ (l : List (DataW H)), l.length ≤ Rows.uptoBulkAll l
  | [] => by simp
  | d :: l => by have := bulk_len l; have := bulk_pos d; simp only [Rows.uptoBulkAll, List.length_cons]; omega
theorem list2 {α : Type} {l : List α} (h : l.length = 2) : ∃ a b, l = [a, b] := by
  match l, h with
  | [a, b], _ => exact ⟨a, b, rfl⟩
theorem list3 {α : Type} {l : List α} (h : l.length = 3) : ∃ a b c, l = [a, b, c] := by
  match l, h with
  | [a, b, c], _ => exact ⟨a, b, c, rfl⟩
theorem open_span {H : Type} {enc : TypeId × Value → H} {w : World} {base : Nat} {spare : Nat → Bool} {held : Bool} {fuel : Nat} {cs : List Value} {x : DataW H × List MemPlace}
    (h : DataW.trod enc Tryz.prog w base spare held fuel 62 cs = some x) : ∃ e : Sn, cs = (SC e).toList := by
  obtain ⟨xs, m, _, hx, hcl, hxl, hf⟩ := DataW.trod_struct Tryz.underlying62 h
  obtain ⟨v0, v1, v2, rfl⟩ := list3 (hcl.trans cellsS)
  obtain ⟨y0, y1, y2, rfl⟩ := list3 hxl
  have t0 := hf 0 _ rfl
  have t1 := hf 1 _ rfl
  have t2 := hf 2 _ rfl
  simp [cellsI] at t0 t1 t2
  obtain ⟨r, e0, -, _⟩ := DataW.trod_int Tryz.underlying3 t0
  obtain ⟨n, e1, -, _⟩ := DataW.trod_int Tryz.underlying3 t1
  obtain ⟨m', e2, -, _⟩ := DataW.trod_int Tryz.underlying3 t2
  simp only [List.cons.injEq, and_true] at e0 e1 e2
  subst e0 e1 e2
  exact ⟨⟨r, n, m'⟩, rfl⟩
theorem viewI {H : Type} {enc : TypeId × Value → H} {W : World} {fuel : Nat} {v : Value} {x : DataW H × List MemPlace}
    (h : DataW.trod enc Tryz.prog W 0 (fun _ => true) true fuel 22 [v] = some x) (hw : Rows.uptoBulk x.1 ≤ 1048576) : ∃ (ao : Option Addr) (n cap : Nat) (Z : List Int), v = .slice ao n cap ∧ V.Src W ao n cap Z ∧ n ≤ 1048576 := by
  rcases DataW.trod_slice Tryz.underlying22 h with h0 | ⟨a, len, cap, elems, rest, n, _, hcs, hx, hb, hl, hm, hlen, hel, hsp, hns⟩
  · have e : v = .slice none 0 0 := by simpa using h0.1
    exact ⟨none, 0, 0, [], e, ⟨rfl, fun _ => ⟨rfl, rfl⟩, fun ad h => (by cases h)⟩, Nat.zero_le _⟩
  · subst hx
    have e : v = .slice (some a) len cap := by simpa using hcs
    simp only [Rows.uptoBulk] at hw
    have h1 := bulk_len (elems.map (·.1))
    simp only [List.length_map] at h1
    have key : ∀ i, i < len → ∃ z : Int, W.cell? (a.add i) = some (.int .i64 z) := by
      intro i hi
      have he := hel i hi
      obtain ⟨y, hy⟩ : ∃ y, elems[i]? = some y := ⟨_, List.getElem?_eq_getElem (by omega)⟩
      rw [hy, cellsI, Option.bind_eq_some_iff] at he
      obtain ⟨cs', hcs, hy'⟩ := he
      obtain ⟨hl', -, hce⟩ := World.cells?_some hcs
      obtain ⟨z, rfl, -, _⟩ := DataW.trod_int Tryz.underlying3 hy'
      have g0 := hce 0 (by omega)
      rw [add_zero, Nat.mul_one] at g0
      exact ⟨z, g0⟩
    refine ⟨some a, len, cap, (List.range len).map fun i => if h : i < len then Classical.choose (key i h) else 0, e, ⟨by simp, fun h => (by cases h), fun ad h t ht => ?_⟩, by omega⟩
    obtain rfl := Option.some.inj h
    have : ((List.range len).map fun i => if h : i < len then Classical.choose (key i h) else 0).getD t 0 = Classical.choose (key t ht) := by simp [List.getD, ht]
    rw [this]
    exact Classical.choose_spec (key t ht)
theorem viewC {H : Type} {enc : TypeId × Value → H} {W : World} {fuel : Nat} {v : Value} {x : DataW H × List MemPlace}
    (h : DataW.trod enc Tryz.prog W 0 (fun _ => true) true fuel 23 [v] = some x) (hw : Rows.uptoBulk x.1 ≤ 1048576) : ∃ (ao : Option Addr) (n cap : Nat) (L : List Sn), v = .slice ao n cap ∧ SSrc W ao n cap L ∧ n ≤ 1048576 := by
  rcases DataW.trod_slice Tryz.underlying23 h with h0 | ⟨a, len, cap, elems, rest, n, _, hcs, hx, hb, hl, hm, hlen, hel, hsp, hns⟩
  · have e : v = .slice none 0 0 := by simpa using h0.1
    exact ⟨none, 0, 0, [], e, SSrc.empty _, Nat.zero_le _⟩
  · subst hx
    have e : v = .slice (some a) len cap := by simpa using hcs
    simp only [Rows.uptoBulk] at hw
    have h1 := bulk_len (elems.map (·.1))
    simp only [List.length_map] at h1
    have key : ∀ i, i < len → ∃ e : Sn, SnAt W (a.add (i * 3)) e := by
      intro i hi
      have he := hel i hi
      obtain ⟨y, hy⟩ : ∃ y, elems[i]? = some y := ⟨_, List.getElem?_eq_getElem (by omega)⟩
      rw [hy, cellsS, Option.bind_eq_some_iff] at he
      obtain ⟨cs', hcs, hy'⟩ := he
      obtain ⟨_, -, hce⟩ := World.cells?_some hcs
      obtain ⟨e, rfl⟩ := open_span hy'
      have g0 := hce 0 (by omega)
      rw [add_zero] at g0
      exact ⟨e, ⟨g0, hce 1 (by omega), hce 2 (by omega)⟩⟩
    refine ⟨some a, len, cap, (List.range len).map fun i => if h : i < len then Classical.choose (key i h) else sn0, e, ⟨by simp, fun h => (by cases h), fun ad h t ht => ?_, by omega⟩, by omega⟩
    obtain rfl := Option.some.inj h
    have : ((List.range len).map fun i => if h : i < len then Classical.choose (key i h) else sn0).getD t sn0 = Classical.choose (key t ht) := by simp [List.getD, ht]
    rw [this]
    exact Classical.choose_spec (key t ht)
theorem viewP {H : Type} {enc : TypeId × Value → H} {W : World} {fuel : Nat} {cs : List Value} {x : DataW H × List MemPlace}
    (h : DataW.trod enc Tryz.prog W 0 (fun _ => true) true fuel 25 cs = some x) (hw : Rows.uptoBulk x.1 ≤ 1048576) : ∃ p : Pv, cs = [.slice p.vo p.vn p.vc, .slice p.co p.cn p.cc] ∧ PSrc W p ∧ p.P.cloud.length ≤ 1048576 := by
  obtain ⟨xs, m, _, hx, hcl, hxl, hf⟩ := DataW.trod_struct Tryz.underlying25 h
  obtain ⟨v0, v1, rfl⟩ := list2 (hcl.trans cellsP)
  obtain ⟨y0, y1, rfl⟩ := list2 hxl
  have t0 := hf 0 _ rfl
  have t1 := hf 1 _ rfl
  simp [cellsV, cellsC] at t0 t1
  subst hx
  simp only [Rows.uptoBulk, List.map_cons, List.map_nil, Rows.uptoBulkAll] at hw
  obtain ⟨a0, l0, c0, Z, rfl, S0, g0⟩ := viewI t0 (by omega)
  obtain ⟨a1, l1, c1, L, rfl, S1, g1⟩ := viewC t1 (by omega)
  exact ⟨⟨a0, l0, c0, a1, l1, c1, ⟨Z, L⟩⟩, rfl, ⟨S0, S1, by show l0 ≤ _; omega⟩, by show L.length ≤ _; rw [S1.len]; exact g1⟩
end Go.Proofs.YtbmjiedpaffifaaGreat
namespace Go.Proofs.YtbmjiedpaffifaaGreat
open Go.ChangeShapes Go.WideShapes Go.ChangeAt Go.RowKit Go.Joins

theorem cellsU : Tryz.prog.cellsOf 5 = 1 := by kernel_rfl
theorem oct_of_wf {n : Int} (h : (Lit.int .u8 n).wf = true) : 0 ≤ n ∧ n ≤ 255 := by
  have e1 : IntKind.u8.min = 0 := by decide
  have e2 : IntKind.u8.max = 255 := by decide
  simp only [Lit.wf, e1, e2, Bool.and_eq_true, decide_eq_true_eq] at h
  exact h
theorem bulk_at {H : Type} : ∀ (l : List (DataW H)) (d : DataW H), d ∈ l → Rows.uptoBulk d ≤ Rows.uptoBulkAll l
  | e :: l, d, h => by
    simp only [Rows.uptoBulkAll]
    rcases List.mem_cons.1 h with rfl | h
    · omega
    · have := bulk_at l d h; omega
theorem viewBu {H : Type} {enc : TypeId × Value → H} {W : World} {fuel : Nat} {v : Value} {x : DataW H × List MemPlace}
    (h : DataW.trod enc Tryz.prog W 0 (fun _ => true) true fuel 28 [v] = some x) (hw : Rows.uptoBulk x.1 ≤ 1048576) : ∃ (ao : Option Addr) (n cap : Nat) (Z : List Int), v = .slice ao n cap ∧ U.Src W ao n cap Z ∧ n ≤ cap ∧ n ≤ 3000000000 := by
  rcases DataW.trod_slice Tryz.underlying28 h with h0 | ⟨a, len, cap, elems, rest, n, _, hcs, hx, hb, hl, hm, hlen, hel, hsp, hns⟩
  · have e : v = .slice none 0 0 := by simpa using h0.1
    exact ⟨none, 0, 0, [], e, ⟨rfl, fun _ => ⟨rfl, rfl⟩, fun ad h => (by cases h), fun k => by simp⟩, Nat.le_refl _, Nat.zero_le _⟩
  · subst hx
    have e : v = .slice (some a) len cap := by simpa using hcs
    simp only [Rows.uptoBulk] at hw
    have h1 := bulk_len (elems.map (·.1))
    simp only [List.length_map] at h1
    have key : ∀ i, i < len → ∃ z : Int, W.cell? (a.add i) = some (.int .u8 z) ∧ 0 ≤ z ∧ z ≤ 255 := by
      intro i hi
      have he := hel i hi
      obtain ⟨y, hy⟩ : ∃ y, elems[i]? = some y := ⟨_, List.getElem?_eq_getElem (by omega)⟩
      rw [hy, cellsU, Option.bind_eq_some_iff] at he
      obtain ⟨cs', hcs, hy'⟩ := he
      obtain ⟨hln, -, hce⟩ := World.cells?_some hcs
      obtain ⟨z, rfl, -, hz⟩ := DataW.trod_int Tryz.underlying5 hy'
      have g0 := hce 0 (by omega)
      rw [add_zero, Nat.mul_one] at g0
      exact ⟨z, g0, oct_of_wf hz⟩
    have at' : ∀ t (ht : t < len), ((List.range len).map fun i => if h : i < len then Classical.choose (key i h) else 0).getD t 0 = Classical.choose (key t ht) := fun t ht => by simp [List.getD, ht]
    refine ⟨some a, len, cap, (List.range len).map fun i => if h : i < len then Classical.choose (key i h) else 0, e, ⟨by simp, fun h => (by cases h), fun ad h t ht => ?_, fun k => ?_⟩, hl, by omega⟩
    · obtain rfl := Option.some.inj h
      rw [at' t ht]
      exact (Classical.choose_spec (key t ht)).1
    · by_cases hk : k < len
      · rw [at' k hk]
        exact (Classical.choose_spec (key k hk)).2
      · rw [List.getD_eq_getElem?_getD, List.getElem?_eq_none (by simp; omega)]
        simp
structure BSU (W : World) (ao : Option Addr) (n c : Nat) (Z : List Int) : Prop where
  src : U.Src W ao n c Z
  cap : n ≤ c
  big : n ≤ 3000000000
theorem viewBs {H : Type} {enc : TypeId × Value → H} {W : World} {a0 : Option Addr} {len cap : Nat} {d : DataW H} {p : List MemPlace}
    (h : DataW.Trod enc Tryz.prog W 0 (fun _ => true) true 28 (Value.slice a0 len cap) d p) (hw : Rows.uptoBulk d ≤ 1048576) : ∃ Z : List Int, BSU W a0 len cap Z := by
  obtain ⟨fuel, hf⟩ := h
  have hcells : (Value.slice a0 len cap).cells = #[Value.slice a0 len cap] := by simp [Value.cells]
  rw [hcells] at hf
  obtain ⟨ao, n, c, Z, e, S, h1, h2⟩ := viewBu hf hw
  simp only [Value.slice.injEq] at e
  obtain ⟨rfl, rfl, rfl⟩ := e
  exact ⟨Z, S, h1, h2⟩
theorem cellsDi : Tryz.prog.cellsOf 27 = 4 := by kernel_rfl
theorem four {α : Type} {l : List α} (h : l.length = 4) : ∃ a b c d, l = [a, b, c, d] := by
  match l, h with
  | [a, b, c, d], _ => exact ⟨a, b, c, d, rfl⟩
theorem open_digestU {H : Type} {enc : TypeId × Value → H} {W : World} {fuel : Nat} {cs : List Value} {x : DataW H × List MemPlace}
    (h : DataW.trod enc Tryz.prog W 0 (fun _ => true) true fuel 27 cs = some x) (hw : Rows.uptoBulk x.1 ≤ 1048576) : ∃ d : Dg, cs = (DiC (mkD d)).toList ∧ DgOk W d := by
  obtain ⟨xs, m, _, hx, hcl, hxl, hf⟩ := DataW.trod_struct Tryz.underlying27 h
  obtain ⟨v0, v1, v2, v3, rfl⟩ := four (hcl.trans cellsDi)
  obtain ⟨y0, y1, rfl⟩ := list2 hxl
  have t0 := hf 0 _ rfl
  have t1 := hf 1 _ rfl
  simp [cellsP] at t0 t1
  subst hx
  simp only [Rows.uptoBulk, List.map_cons, List.map_nil, Rows.uptoBulkAll] at hw
  obtain ⟨p, ep, Sp, -⟩ := viewP t0 (by omega)
  obtain ⟨q, eq, Sq, -⟩ := viewP t1 (by omega)
  simp only [List.cons.injEq, and_true] at ep eq
  obtain ⟨rfl, rfl⟩ := ep
  obtain ⟨rfl, rfl⟩ := eq
  exact ⟨⟨p, q⟩, rfl, Sp, Sq⟩
end Go.Proofs.YtbmjiedpaffifaaGreat
