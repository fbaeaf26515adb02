/- EFd PVw GVp LView GVf -/
import Derived.Test.YtcnciccljblkfaaGreatEf40
import Derived.Test.YtcnciccljblkfaaGreatEf22
import Derived.Test.YtcnciccljblkfaaGreatEf01
import Derived.ProofKit
import Derived.OpenShut
import Derived.Lib.SmallJoins
import Derived.HandedShaped
import Derived.SizedLaws
import Derived.ChangeMaps5
import Derived.JoinedCond
import Derived.Test.YtcnciccljblkfaaGreatEf18
import Derived.Test.YtcnciccljblkfaaGreatEf34
namespace Go.Proofs.YtcnciccljblkfaaGreat
open Go.RowKit
def bldDe (a : Array (Nat × Value)) : Sem Value := Instr.build 34 a
theorem bldDe_eq (a : Array (Nat × Value)) : Instr.build 34 a = bldDe a := rfl
theorem run_bldDe (a b : Int) (w : World) : (bldDe #[(0, .int .i64 a), (1, .int .i64 b)]).run Tryz.prog w = .ok (.agg #[.int .i64 a, .int .i64 b]) w := by kernel_rfl
def bldEe (a : Array (Nat × Value)) : Sem Value := Instr.build 36 a
theorem bldEe_eq (a : Array (Nat × Value)) : Instr.build 36 a = bldEe a := rfl
theorem run_bldEe (a b q : Int) (s : ByteArray) (w : World) : (bldEe #[(0, .agg #[.int .i64 a, .int .i64 b]), (1, .string s), (2, .int .i64 q)]).run Tryz.prog w = .ok (.agg #[.int .i64 a, .int .i64 b, .string s, .int .i64 q]) w := by kernel_rfl
def bldFe (a : Array (Nat × Value)) : Sem Value := Instr.build 29 a
theorem bldFe_eq (a : Array (Nat × Value)) : Instr.build 29 a = bldFe a := rfl
theorem run_bldFe (w : World) : (bldFe #[]).run Tryz.prog w = .ok (.agg #[.slice none 0 0, .slice none 0 0, .slice none 0 0, .slice none 0 0]) w := by kernel_rfl
theorem cells_ag (xs : Array Value) : (Value.agg xs).cells = xs := by simp [Value.cells]
def efE : K.En := ⟨0, 1, ⟨#[65]⟩, 5⟩
def ef0 : Fc := ⟨none, 0, 0, [], pv0, none, 0, 0, []⟩
theorem ef0_ok (w : World) : FcOk w ef0 := ⟨esrc_nil w, PSrc.zero w, RcS.empty w⟩
theorem ef0_ev : EvOf ef0 0 := .inr (.inr ⟨⟨rfl, ⟨by decide, trivial⟩, okR_zero _⟩, .inl ⟨rfl, rfl⟩, rfl⟩)
theorem ef_chk : K.chk [efE] = 0 := by decide +kernel
theorem ef_in (e : K.En) : inB pv0.P e = false := by
 cases hb : inB pv0.P e
 ·rfl
 ·rw [inB_iff] at hb
  unfold dotIn at hb
  obtain ⟨h1, h2⟩ := hb
  exact absurd h2 (by unfold runsAt pv0; simp [vecPart, cloudPart, V.at', mem, V.clamp])
theorem ef_mem (x : K.En) : x ∈ [efE] ↔ EfK [efE] ef0 x := by
 unfold EfK
 constructor
 ·intro hx
  exact .inl ⟨hx, ef_in x, rfl⟩
 ·rintro (⟨hx, -⟩ | hx)
  ·exact hx
  ·cases hx
theorem ef_first {Z : List K.En} {er : Int} (h : EfD [efE] ef0 Z er) : Z = [efE] ∧ er = 0 := by
 have hC : ¬ EfC [efE] ef0 := by
  rintro ⟨a, ha, -⟩
  cases ha
 have h' : EfD [efE] ef0 [efE] 0 := Or.inr (Or.inr (Or.inr ⟨ef_chk, ef0_ev, hC, rfl, List.pairwise_singleton _ _, ef_mem⟩))
 exact h.one h'
attribute [local go_sem ↓] ldP_eq stP_eq ldFa_eq stFa_eq ldRe_eq stRe_eq K.ld28_eq K.st28_eq K.ld26_eq bldDe_eq run_bldDe bldEe_eq run_bldEe bldFe_eq run_bldFe
attribute [local go_sem] cells_PV PC_size cells_FaV FaC_size K.zero_EC K.cells_EV K.EC_size cells_ReV ReC_size cells_ag
set_option maxRecDepth 100000 in
set_option maxHeartbeats 3200000 in
theorem actEffects_law (ao : Option Addr) (n cap : Nat) (L : List K.En) (f : Fc) (w : World) (hS : K.ESrc w ao n cap L) (hF : FcOk w f) :
  Calls Tryz.prog 3 #[.slice ao n cap, FaV (mkF f)] w fun e w' => e = .returned (.bool true) ∧ Below w.heap.size w w' := by
 have HX := hide (FaBox_new w (mkF f))
 have HBK := hide (below_new w (.cells (FaC (mkF f)) 29))
 have HF := hide (hF.below HBK.out)
 have HS := hide (hS.below HBK.out)
 clear hF hS
 obtain ⟨wk, hwk⟩ : ∃ wk, w.alloc (.cells (FaC (mkF f)) 29) = wk := ⟨_, rfl⟩
 obtain ⟨G, hG⟩ : ∃ G, w.heap.size = G := ⟨_, rfl⟩
 rw [hwk] at HX HBK HF HS
 rw [hG] at HX
 obtain ⟨g1, hg1⟩ : ∃ g1, wk.heap.size = g1 := ⟨_, rfl⟩
 have b1 := below_new wk (.cells #[.int .i64 0, .int .i64 1, .string ⟨#[65]⟩, .int .i64 5] 36)
 have s1 := K.lit_esrc wk [efE] #[.int .i64 0, .int .i64 1, .string ⟨#[65]⟩, .int .i64 5] rfl 36 1 rfl (by decide) (by decide)
 rw [hg1] at s1
 obtain ⟨w1, hw1⟩ : ∃ w1, wk.alloc (.cells #[.int .i64 0, .int .i64 1, .string ⟨#[65]⟩, .int .i64 5] 36) = w1 := ⟨_, rfl⟩
 rw [hw1] at b1 s1
 have HB1 := hide b1
 have HS1 := hide s1
 clear b1 s1
 go_enter Tryz.func3, Tryz.ntmps3
 go_wp2_with fail
 clear hwk hG hg1 hw1
 refine (effect_any (some ⟨g1, 0, none⟩) 1 1 [efE] ef0 w1 HS1.out (ef0_ok w1)).mono ?_
 rintro e w2 ⟨a2, n2, c2, Z, er, rfl, S2, b2, D2⟩
 obtain ⟨rfl, rfl⟩ := ef_first D2
 have hn2 : n2 = 1 := S2.1.symm
 subst hn2
 obtain ⟨ad, hao, A0⟩ := S2.at 0 (by decide)
 subst hao
 rw [Nat.zero_mul, K.add_zero] at A0
 have hsp := World.cell?_spot A0.c0
 obtain ⟨bb, oo, sp⟩ := ad
 have hsp2 : sp = none := hsp
 subst hsp2
 have c3 : w2.cell? ⟨bb, oo + 3, none⟩ = some (.int .i64 5) := by have h := A0.c3; rw [Addr.add_lit] at h; exact h
 have HB2 := hide (HB1.out.trans (b2.mono HB1.out.size))
 clear S2 b2 D2 A0 hsp HB1 HS1
 have lf := run_ldFa (HX.out.below HB2.out)
 go_wp2_with fail
 clear c3 lf
 refine (refEffect_any ao n cap L f w2 (HS.out.below HB2.out) (HF.out.below HB2.out)).mono ?_
 rintro e w3 ⟨a3, n3, c3, Z, er, rfl, S3, b3, D3⟩
 have HB3 := hide (HB2.out.trans (b3.mono HB2.out.size))
 have HS3 := hide S3
 have HD3 := hide D3
 clear S3 b3 D3 HB2
 have lf := run_ldFa (HX.out.below HB3.out)
 go_wp2_with fail
 clear lf
 refine (effect_any ao n cap L f w3 (HS.out.below HB3.out) (HF.out.below HB3.out)).mono ?_
 rintro e w4 ⟨a4, n4, c4, Z', er', rfl, S4, b4, D4⟩
 obtain ⟨rfl, rfl⟩ := HD3.out.one D4
 have HB4 := hide (HB3.out.trans (b4.mono HB3.out.size))
 have HS4 : Hid (K.ESrc w4 a4 n4 c4 Z ∧ K.ESrc w4 a3 n3 c3 Z) := ⟨S4, HS3.out.below b4⟩
 clear S4 b4 D4 HB3 HS3 HD3
 have heq : (er == er) = true := by simp
 go_wp2_with fail
 refine (entries08_any a4 a3 n4 n3 c4 c3 Z Z w4 HS4.out.1 HS4.out.2).mono ?_
 rintro e w5 ⟨x, rfl, hx, b5⟩
 obtain rfl : x = true := hx.2 rfl
 have HB5 := hide (HBK.out.trans ((HB4.out.trans (b5.mono HB4.out.size)).mono HBK.out.size))
 clear hx b5 heq
 go_wp2_with fail
 go_ret
 exact ⟨rfl, HB5.out⟩
end Go.Proofs.YtcnciccljblkfaaGreat
namespace Go.Proofs.YtcnciccljblkfaaGreat
open Go.ChangeShapes Go.WideShapes Go.ChangeAt Go.RowKit Go.Joins

theorem own : ownKnob Tryz.prog.godebug = none := by kernel_rfl
theorem laidOut : laidOutB Tryz.prog = true := by kernel_rfl
theorem cellsS : Tryz.prog.cellsOf 76 = 3 := by kernel_rfl
theorem cellsI : Tryz.prog.cellsOf 3 = 1 := by kernel_rfl
theorem cellsP : Tryz.prog.cellsOf 26 = 2 := by kernel_rfl
theorem cellsV : Tryz.prog.cellsOf 23 = 1 := by kernel_rfl
theorem cellsC : Tryz.prog.cellsOf 24 = 1 := by kernel_rfl
theorem bulk_pos {H : Type} (d : DataW H) : 1 ≤ Rows.uptoBulk d := by
 cases d with
 | lit l => cases l <;> simp only [Rows.uptoBulk] <;> omega
 | _ => simp only [Rows.uptoBulk] <;> omega
theorem bulk_len {H : Type} : ∀ (l : List (DataW H)), l.length ≤ Rows.uptoBulkAll l
 | [] => by simp
 | d :: l => by have := bulk_len l; have := bulk_pos d; simp only [Rows.uptoBulkAll, List.length_cons]; omega
theorem list2 {α : Type} {l : List α} (h : l.length = 2) : ∃ a b, l = [a, b] := by
 match l, h with
 | [a, b], _ => exact ⟨a, b, rfl⟩
theorem list3 {α : Type} {l : List α} (h : l.length = 3) : ∃ a b c, l = [a, b, c] := by
 match l, h with
 | [a, b, c], _ => exact ⟨a, b, c, rfl⟩
theorem open_span {H : Type} {enc : TypeId × Value → H} {w : World} {base : Nat} {spare : Nat → Bool} {held : Bool} {fuel : Nat} {cs : List Value} {x : DataW H × List MemPlace}
  (h : DataW.trod enc Tryz.prog w base spare held fuel 76 cs = some x) : ∃ e : Sn, cs = (SC e).toList := by
 obtain ⟨xs, m, _, hx, hcl, hxl, hf⟩ := DataW.trod_struct Tryz.underlying76 h
 obtain ⟨v0, v1, v2, rfl⟩ := list3 (hcl.trans cellsS)
 obtain ⟨y0, y1, y2, rfl⟩ := list3 hxl
 have t0 := hf 0 _ rfl
 have t1 := hf 1 _ rfl
 have t2 := hf 2 _ rfl
 simp [cellsI] at t0 t1 t2
 obtain ⟨r, e0, -, _⟩ := DataW.trod_int Tryz.underlying3 t0
 obtain ⟨n, e1, -, _⟩ := DataW.trod_int Tryz.underlying3 t1
 obtain ⟨m', e2, -, _⟩ := DataW.trod_int Tryz.underlying3 t2
 simp only [List.cons.injEq, and_true] at e0 e1 e2
 subst e0 e1 e2
 exact ⟨⟨r, n, m'⟩, rfl⟩
theorem viewI {H : Type} {enc : TypeId × Value → H} {W : World} {fuel : Nat} {v : Value} {x : DataW H × List MemPlace}
  (h : DataW.trod enc Tryz.prog W 0 (fun _ => true) true fuel 23 [v] = some x) (hw : Rows.uptoBulk x.1 ≤ 1048576) : ∃ (ao : Option Addr) (n cap : Nat) (Z : List Int), v = .slice ao n cap ∧ V.Src W ao n cap Z ∧ n ≤ 1048576 := by
 rcases DataW.trod_slice Tryz.underlying23 h with h0 | ⟨a, len, cap, elems, rest, n, _, hcs, hx, hb, hl, hm, hlen, hel, hsp, hns⟩
 ·have e : v = .slice none 0 0 := by simpa using h0.1
  exact ⟨none, 0, 0, [], e, ⟨rfl, fun _ => ⟨rfl, rfl⟩, fun ad h => (by cases h)⟩, Nat.zero_le _⟩
 ·subst hx
  have e : v = .slice (some a) len cap := by simpa using hcs
  simp only [Rows.uptoBulk] at hw
  have h1 := bulk_len (elems.map (·.1))
  simp only [List.length_map] at h1
  have key : ∀ i, i < len → ∃ z : Int, W.cell? (a.add i) = some (.int .i64 z) := by
   intro i hi
   have he := hel i hi
   obtain ⟨y, hy⟩ : ∃ y, elems[i]? = some y := ⟨_, List.getElem?_eq_getElem (by omega)⟩
   rw [hy, cellsI, Option.bind_eq_some_iff] at he
   obtain ⟨cs', hcs, hy'⟩ := he
   obtain ⟨hl', -, hce⟩ := World.cells?_some hcs
   obtain ⟨z, rfl, -, _⟩ := DataW.trod_int Tryz.underlying3 hy'
   have g0 := hce 0 (by omega)
   rw [add_zero, Nat.mul_one] at g0
   exact ⟨z, g0⟩
  refine ⟨some a, len, cap, (List.range len).map fun i => if h : i < len then Classical.choose (key i h) else 0, e, ⟨by simp, fun h => (by cases h), fun ad h t ht => ?_⟩, by omega⟩
  obtain rfl := Option.some.inj h
  have : ((List.range len).map fun i => if h : i < len then Classical.choose (key i h) else 0).getD t 0 = Classical.choose (key t ht) := by simp [List.getD, ht]
  rw [this]
  exact Classical.choose_spec (key t ht)
theorem viewC {H : Type} {enc : TypeId × Value → H} {W : World} {fuel : Nat} {v : Value} {x : DataW H × List MemPlace}
  (h : DataW.trod enc Tryz.prog W 0 (fun _ => true) true fuel 24 [v] = some x) (hw : Rows.uptoBulk x.1 ≤ 1048576) : ∃ (ao : Option Addr) (n cap : Nat) (L : List Sn), v = .slice ao n cap ∧ SSrc W ao n cap L ∧ n ≤ 1048576 := by
 rcases DataW.trod_slice Tryz.underlying24 h with h0 | ⟨a, len, cap, elems, rest, n, _, hcs, hx, hb, hl, hm, hlen, hel, hsp, hns⟩
 ·have e : v = .slice none 0 0 := by simpa using h0.1
  exact ⟨none, 0, 0, [], e, SSrc.empty _, Nat.zero_le _⟩
 ·subst hx
  have e : v = .slice (some a) len cap := by simpa using hcs
  simp only [Rows.uptoBulk] at hw
  have h1 := bulk_len (elems.map (·.1))
  simp only [List.length_map] at h1
  have key : ∀ i, i < len → ∃ e : Sn, SnAt W (a.add (i * 3)) e := by
   intro i hi
   have he := hel i hi
   obtain ⟨y, hy⟩ : ∃ y, elems[i]? = some y := ⟨_, List.getElem?_eq_getElem (by omega)⟩
   rw [hy, cellsS, Option.bind_eq_some_iff] at he
   obtain ⟨cs', hcs, hy'⟩ := he
   obtain ⟨_, -, hce⟩ := World.cells?_some hcs
   obtain ⟨e, rfl⟩ := open_span hy'
   have g0 := hce 0 (by omega)
   rw [add_zero] at g0
   exact ⟨e, ⟨g0, hce 1 (by omega), hce 2 (by omega)⟩⟩
  refine ⟨some a, len, cap, (List.range len).map fun i => if h : i < len then Classical.choose (key i h) else sn0, e, ⟨by simp, fun h => (by cases h), fun ad h t ht => ?_, by omega, hl⟩, by omega⟩
  obtain rfl := Option.some.inj h
  have : ((List.range len).map fun i => if h : i < len then Classical.choose (key i h) else sn0).getD t sn0 = Classical.choose (key t ht) := by simp [List.getD, ht]
  rw [this]
  exact Classical.choose_spec (key t ht)
end Go.Proofs.YtcnciccljblkfaaGreat
namespace Go.Proofs.YtcnciccljblkfaaGreat
open Go.ChangeShapes Go.WideShapes Go.ChangeAt Go.RowKit Go.Joins

theorem bytesI : Tryz.prog.bytesOf 3 = 8 := by kernel_rfl
theorem bytesS : Tryz.prog.bytesOf 76 = 24 := by kernel_rfl
theorem viewIw {H : Type} {enc : TypeId × Value → H} {W : World} {fuel : Nat} {v : Value} {x : DataW H × List MemPlace}
  (h : DataW.trod enc Tryz.prog W 0 (fun _ => true) true fuel 23 [v] = some x) (hw : ∀ n ∈ x.1.weights Tryz.prog 23, n ≤ reachBytes) : ∃ (ao : Option Addr) (n cap : Nat) (Z : List Int), v = .slice ao n cap ∧ V.Src W ao n cap Z ∧ n ≤ 17592186044415 := by
 have h2 := reachBytes_lt
 rcases DataW.trod_slice Tryz.underlying23 h with h0 | ⟨a, len, cap, elems, rest, n, _, hcs, hx, hb, hl, hm, hlen, hel, hsp, hns⟩
 ·have e : v = .slice none 0 0 := by simpa using h0.1
  exact ⟨none, 0, 0, [], e, ⟨rfl, fun _ => ⟨rfl, rfl⟩, fun ad h => (by cases h)⟩, Nat.zero_le _⟩
 ·subst hx
  have e : v = .slice (some a) len cap := by simpa using hcs
  have h1 := hw (((elems.map (·.1)).length + (rest.map (·.1)).length) * Tryz.prog.bytesOf 3) (by simp [DataW.weights, Tryz.underlying23])
  rw [bytesI] at h1
  simp at h1
  have key : ∀ i, i < len → ∃ z : Int, W.cell? (a.add i) = some (.int .i64 z) := by
   intro i hi
   have he := hel i hi
   obtain ⟨y, hy⟩ : ∃ y, elems[i]? = some y := ⟨_, List.getElem?_eq_getElem (by omega)⟩
   rw [hy, cellsI, Option.bind_eq_some_iff] at he
   obtain ⟨cs', hcs, hy'⟩ := he
   obtain ⟨hl', -, hce⟩ := World.cells?_some hcs
   obtain ⟨z, rfl, -, _⟩ := DataW.trod_int Tryz.underlying3 hy'
   have g0 := hce 0 (by omega)
   rw [add_zero, Nat.mul_one] at g0
   exact ⟨z, g0⟩
  refine ⟨some a, len, cap, (List.range len).map fun i => if h : i < len then Classical.choose (key i h) else 0, e, ⟨by simp, fun h => (by cases h), fun ad h t ht => ?_⟩, by omega⟩
  obtain rfl := Option.some.inj h
  have : ((List.range len).map fun i => if h : i < len then Classical.choose (key i h) else 0).getD t 0 = Classical.choose (key t ht) := by simp [List.getD, ht]
  rw [this]
  exact Classical.choose_spec (key t ht)
theorem viewCw {H : Type} {enc : TypeId × Value → H} {W : World} {fuel : Nat} {v : Value} {x : DataW H × List MemPlace}
  (h : DataW.trod enc Tryz.prog W 0 (fun _ => true) true fuel 24 [v] = some x) (hw : ∀ n ∈ x.1.weights Tryz.prog 24, n ≤ reachBytes) : ∃ (ao : Option Addr) (n cap : Nat) (L : List Sn), v = .slice ao n cap ∧ SSrc W ao n cap L := by
 have h2 := reachBytes_lt
 rcases DataW.trod_slice Tryz.underlying24 h with h0 | ⟨a, len, cap, elems, rest, n, _, hcs, hx, hb, hl, hm, hlen, hel, hsp, hns⟩
 ·have e : v = .slice none 0 0 := by simpa using h0.1
  exact ⟨none, 0, 0, [], e, SSrc.empty _⟩
 ·subst hx
  have e : v = .slice (some a) len cap := by simpa using hcs
  have h1 := hw (((elems.map (·.1)).length + (rest.map (·.1)).length) * Tryz.prog.bytesOf 76) (by simp [DataW.weights, Tryz.underlying24])
  rw [bytesS] at h1
  simp at h1
  have key : ∀ i, i < len → ∃ e : Sn, SnAt W (a.add (i * 3)) e := by
   intro i hi
   have he := hel i hi
   obtain ⟨y, hy⟩ : ∃ y, elems[i]? = some y := ⟨_, List.getElem?_eq_getElem (by omega)⟩
   rw [hy, cellsS, Option.bind_eq_some_iff] at he
   obtain ⟨cs', hcs, hy'⟩ := he
   obtain ⟨_, -, hce⟩ := World.cells?_some hcs
   obtain ⟨e, rfl⟩ := open_span hy'
   have g0 := hce 0 (by omega)
   rw [add_zero] at g0
   exact ⟨e, ⟨g0, hce 1 (by omega), hce 2 (by omega)⟩⟩
  refine ⟨some a, len, cap, (List.range len).map fun i => if h : i < len then Classical.choose (key i h) else sn0, e, ⟨by simp, fun h => (by cases h), fun ad h t ht => ?_, by omega, hl⟩⟩
  obtain rfl := Option.some.inj h
  have : ((List.range len).map fun i => if h : i < len then Classical.choose (key i h) else sn0).getD t sn0 = Classical.choose (key t ht) := by simp [List.getD, ht]
  rw [this]
  exact Classical.choose_spec (key t ht)
theorem viewPw {H : Type} {enc : TypeId × Value → H} {W : World} {fuel : Nat} {cs : List Value} {x : DataW H × List MemPlace}
  (h : DataW.trod enc Tryz.prog W 0 (fun _ => true) true fuel 26 cs = some x) (hw : ∀ n ∈ x.1.weights Tryz.prog 26, n ≤ reachBytes) : ∃ p : Pv, cs = [.slice p.vo p.vn p.vc, .slice p.co p.cn p.cc] ∧ PSrc W p := by
 obtain ⟨xs, m, _, hx, hcl, hxl, hf⟩ := DataW.trod_struct Tryz.underlying26 h
 obtain ⟨v0, v1, rfl⟩ := list2 (hcl.trans cellsP)
 obtain ⟨y0, y1, rfl⟩ := list2 hxl
 have t0 := hf 0 _ rfl
 have t1 := hf 1 _ rfl
 simp [cellsV, cellsC] at t0 t1
 subst hx
 simp only [DataW.weights, Tryz.underlying26] at hw
 obtain ⟨a0, l0, c0, Z, rfl, S0, g0⟩ := viewIw t0 (fun n hn => hw n (DataW.weights_mem_each (j := 0) (t := 23) rfl rfl n hn))
 obtain ⟨a1, l1, c1, L, rfl, S1⟩ := viewCw t1 (fun n hn => hw n (DataW.weights_mem_each (j := 1) (t := 24) rfl rfl n hn))
 exact ⟨⟨a0, l0, c0, a1, l1, c1, ⟨Z, L⟩⟩, rfl, ⟨S0, S1, g0⟩⟩
end Go.Proofs.YtcnciccljblkfaaGreat
namespace Go.Proofs.YtcnciccljblkfaaGreat.K
open Go.ChangeShapes Go.WideShapes Go.ChangeAt Go.RowKit Go.Joins

theorem cells28 : Tryz.prog.cellsOf 36 = 4 := by kernel_rfl
theorem cells26 : Tryz.prog.cellsOf 34 = 2 := by kernel_rfl
theorem cells3 : Tryz.prog.cellsOf 3 = 1 := by kernel_rfl
theorem cells9 : Tryz.prog.cellsOf 9 = 1 := by kernel_rfl
theorem bytes28 : Tryz.prog.bytesOf 36 = 40 := by kernel_rfl
theorem list2 {α : Type} {l : List α} (h : l.length = 2) : ∃ a b, l = [a, b] := by
 match l, h with
 | [a, b], _ => exact ⟨a, b, rfl⟩
theorem list3 {α : Type} {l : List α} (h : l.length = 3) : ∃ a b c, l = [a, b, c] := by
 match l, h with
 | [a, b, c], _ => exact ⟨a, b, c, rfl⟩
theorem list4 {α : Type} {l : List α} (h : l.length = 4) : ∃ a b c d, l = [a, b, c, d] := by
 match l, h with
 | [a, b, c, d], _ => exact ⟨a, b, c, d, rfl⟩
theorem open_entry {H : Type} {enc : TypeId × Value → H} {w : World} {base : Nat} {spare : Nat → Bool} {held : Bool} {fuel : Nat} {cs : List Value} {x : DataW H × List MemPlace}
  (h : DataW.trod enc Tryz.prog w base spare held fuel 36 cs = some x) : ∃ e : En, cs = (EC e).toList ∧ e.sku.size ≤ maxLen := by
 obtain ⟨xs, m, _, hx, hcl, hxl, hf⟩ := DataW.trod_struct Tryz.underlying36 h
 obtain ⟨v0, v1, v2, v3, rfl⟩ := list4 (hcl.trans cells28)
 obtain ⟨y0, y1, y2, rfl⟩ := list3 hxl
 have t0 := hf 0 _ rfl
 have t1 := hf 1 _ rfl
 have t2 := hf 2 _ rfl
 simp [cells3, cells9, cells26] at t0 t1 t2
 obtain ⟨xs', m', _, hx', hcl', hxl', hf'⟩ := DataW.trod_struct Tryz.underlying34 t0
 obtain ⟨z0, z1, rfl⟩ := list2 hxl'
 have s0 := hf' 0 _ rfl
 have s1 := hf' 1 _ rfl
 simp [cells3] at s0 s1
 obtain ⟨r, e0, -, _⟩ := DataW.trod_int Tryz.underlying3 s0
 obtain ⟨n, e1, -, _⟩ := DataW.trod_int Tryz.underlying3 s1
 obtain ⟨s, e2, -, w2⟩ := DataW.trod_string Tryz.underlying9 t1
 obtain ⟨q, e3, -, _⟩ := DataW.trod_int Tryz.underlying3 t2
 simp only [List.cons.injEq, and_true] at e0 e1 e2 e3
 subst e0 e1 e2 e3
 exact ⟨⟨r, n, s, q⟩, rfl, w2⟩
theorem view {H : Type} {enc : TypeId × Value → H} {W : World} {a0 : Option Addr} {len cap : Nat} {d : DataW H} {p : List MemPlace}
  (h : DataW.Trod enc Tryz.prog W 0 (fun _ => true) true 22 (Value.slice a0 len cap) d p) (hw : ∀ n ∈ DataW.weights Tryz.prog 22 d, n ≤ reachBytes) :
  ∃ L : List En, ESrc W a0 len cap L := by
 obtain ⟨fuel, hf⟩ := h
 rcases DataW.trod_slice Tryz.underlying22 hf with h0 | ⟨a, len', cap', elems, rest, n, _, hcs, hx, hb, hl, hm, hlen, hel, hsp, hns⟩
 ·have hcs := h0.1
  simp [Value.cells] at hcs
  obtain ⟨rfl, rfl, rfl⟩ := hcs
  exact ⟨[], rfl, fun _ => ⟨rfl, rfl⟩, fun ad h => (by cases h), fun e he => (by cases he), Nat.zero_le _⟩
 ·simp [Value.cells] at hcs
  obtain ⟨rfl, rfl, rfl⟩ := hcs
  simp only [Prod.mk.injEq] at hx
  obtain ⟨rfl, _⟩ := hx
  have h1 := hw (((elems.map (·.1)).length + (rest.map (·.1)).length) * Tryz.prog.bytesOf 36) (by simp [DataW.weights, Tryz.underlying22])
  rw [bytes28] at h1
  simp at h1
  have h2 := reachBytes_lt
  have key : ∀ i, i < len → ∃ e : En, EnAt W (a.add (i * 4)) e ∧ e.sku.size ≤ maxLen := by
   intro i hi
   have he := hel i hi
   obtain ⟨y, hy⟩ : ∃ y, elems[i]? = some y := ⟨_, List.getElem?_eq_getElem (by omega)⟩
   rw [hy, cells28, Option.bind_eq_some_iff] at he
   obtain ⟨cs', hcs, hy'⟩ := he
   obtain ⟨_, -, hce⟩ := World.cells?_some hcs
   obtain ⟨e, rfl, hs⟩ := open_entry hy'
   have g0 := hce 0 (by omega)
   rw [add_zero] at g0
   exact ⟨e, ⟨g0, hce 1 (by omega), hce 2 (by omega), hce 3 (by omega)⟩, hs⟩
  refine ⟨(List.range len).map fun i => if h : i < len then Classical.choose (key i h) else en0, by simp, fun h => (by cases h), fun ad h t ht => ?_, fun e he => ?_, by omega⟩
  ·obtain rfl := Option.some.inj h
   have : ((List.range len).map fun i => if h : i < len then Classical.choose (key i h) else en0).getD t en0 = Classical.choose (key t ht) := by simp [List.getD, ht]
   rw [this]
   exact (Classical.choose_spec (key t ht)).1
  ·simp only [List.mem_map, List.mem_range] at he
   obtain ⟨i, hi, rfl⟩ := he
   rw [dif_pos hi]
   exact (Classical.choose_spec (key i hi)).2
end Go.Proofs.YtcnciccljblkfaaGreat.K
namespace Go.Proofs.YtcnciccljblkfaaGreat
open Go.ChangeShapes Go.WideShapes Go.ChangeAt Go.RowKit Go.Joins

theorem cellsRe : Tryz.prog.cellsOf 52 = 3 := by kernel_rfl
theorem cellsFa : Tryz.prog.cellsOf 29 = 4 := by kernel_rfl
theorem cellsSk : Tryz.prog.cellsOf 9 = 1 := by kernel_rfl
theorem cellsEs : Tryz.prog.cellsOf 22 = 1 := by kernel_rfl
theorem cellsRs : Tryz.prog.cellsOf 27 = 1 := by kernel_rfl
theorem bytesRe : Tryz.prog.bytesOf 52 = 64 := by kernel_rfl
theorem mem_weightsAll {H : Type} {P : Program} {e : TypeId} {d : DataW H} : ∀ {l : List (DataW H)}, d ∈ l → ∀ n ∈ d.weights P e, n ∈ DataW.weightsAll P e l
 | c :: t, h, n, hn => by
  rw [DataW.weightsAll]
  rcases List.mem_cons.1 h with rfl | h
  ·exact List.mem_append_left _ hn
  ·exact List.mem_append_right _ (mem_weightsAll h n hn)
theorem open_record {H : Type} {enc : TypeId × Value → H} {W : World} {fuel : Nat} {cs : List Value} {x : DataW H × List MemPlace}
  (h : DataW.trod enc Tryz.prog W 0 (fun _ => true) true fuel 52 cs = some x) (hw : ∀ n ∈ x.1.weights Tryz.prog 52, n ≤ reachBytes) : ∃ r : Rc, cs = (ReC (mkR r)).toList ∧ RcOk W r := by
 obtain ⟨xs, m, _, hx, hcl, hxl, hf⟩ := DataW.trod_struct Tryz.underlying52 h
 obtain ⟨v0, v1, v2, rfl⟩ := list3 (hcl.trans cellsRe)
 obtain ⟨y0, y1, rfl⟩ := list2 hxl
 have t0 := hf 0 _ rfl
 have t1 := hf 1 _ rfl
 simp [cellsP, cellsSk] at t0 t1
 subst hx
 simp only [DataW.weights, Tryz.underlying52] at hw
 obtain ⟨s, e0, -, hs⟩ := DataW.trod_string Tryz.underlying9 t0
 obtain ⟨p, ep, Sp⟩ := viewPw t1 (fun n hn => hw n (DataW.weights_mem_each (j := 1) (t := 26) rfl rfl n hn))
 simp only [List.cons.injEq, and_true] at e0 ep
 obtain ⟨rfl, rfl⟩ := ep
 subst e0
 exact ⟨⟨s, p⟩, rfl, Sp, hs⟩
theorem viewR {H : Type} {enc : TypeId × Value → H} {W : World} {fuel : Nat} {v : Value} {x : DataW H × List MemPlace}
  (h : DataW.trod enc Tryz.prog W 0 (fun _ => true) true fuel 27 [v] = some x) (hw : ∀ n ∈ x.1.weights Tryz.prog 27, n ≤ reachBytes) : ∃ (ao : Option Addr) (n cap : Nat) (L : List Rc), v = .slice ao n cap ∧ RcS W ao n cap L := by
 have h2 := reachBytes_lt
 rcases DataW.trod_slice Tryz.underlying27 h with h0 | ⟨a, len, cap, elems, rest, n, _, hcs, hx, hb, hl, hm, hlen, hel, hsp, hns⟩
 ·have e : v = .slice none 0 0 := by simpa using h0.1
  exact ⟨none, 0, 0, [], e, RcS.empty _⟩
 ·subst hx
  have e : v = .slice (some a) len cap := by simpa using hcs
  have h1 := hw (((elems.map (·.1)).length + (rest.map (·.1)).length) * Tryz.prog.bytesOf 52) (by simp [DataW.weights, Tryz.underlying27])
  rw [bytesRe] at h1
  simp at h1
  have key : ∀ i, i < len → ∃ r : Rc, ReAt W (a.add (i * 3)) (mkR r) ∧ RcOk W r := by
   intro i hi
   have he := hel i hi
   obtain ⟨y, hy⟩ : ∃ y, elems[i]? = some y := ⟨_, List.getElem?_eq_getElem (by omega)⟩
   rw [hy, cellsRe, Option.bind_eq_some_iff] at he
   obtain ⟨cs', hcs, hy'⟩ := he
   obtain ⟨_, -, hce⟩ := World.cells?_some hcs
   obtain ⟨r, rfl, hr⟩ := open_record hy' (fun n hn => hw n (by
    simp only [DataW.weights, Tryz.underlying27]
    exact List.mem_cons_of_mem _ (List.mem_append_left _ (mem_weightsAll (List.mem_map_of_mem (f := (·.1)) (List.mem_of_getElem? hy)) n hn))))
   have g0 := hce 0 (by omega)
   rw [add_zero] at g0
   exact ⟨r, ⟨g0, hce 1 (by omega), hce 2 (by omega)⟩, hr⟩
  refine ⟨some a, len, cap, (List.range len).map fun i => if h : i < len then Classical.choose (key i h) else rc0, e, ⟨by simp, (fun h => by cases h), fun ad h t ht => ?_, fun r hr => ?_, by omega⟩⟩
  ·obtain rfl := Option.some.inj h
   have : ((List.range len).map fun i => if h : i < len then Classical.choose (key i h) else rc0).getD t rc0 = Classical.choose (key t ht) := by simp [List.getD, ht]
   rw [this]
   exact (Classical.choose_spec (key t ht)).1
  ·simp only [List.mem_map, List.mem_range] at hr
   obtain ⟨i, hi, rfl⟩ := hr
   rw [dif_pos hi]
   exact (Classical.choose_spec (key i hi)).2
theorem open_facts {H : Type} {enc : TypeId × Value → H} {W : World} {fuel : Nat} {cs : List Value} {x : DataW H × List MemPlace}
  (h : DataW.trod enc Tryz.prog W 0 (fun _ => true) true fuel 29 cs = some x) (hw : ∀ n ∈ x.1.weights Tryz.prog 29, n ≤ reachBytes) : ∃ f : Fc, cs = (FaC (mkF f)).toList ∧ FcOk W f := by
 obtain ⟨xs, m, _, hx, hcl, hxl, hf⟩ := DataW.trod_struct Tryz.underlying29 h
 obtain ⟨v0, v1, v2, v3, rfl⟩ := K.list4 (hcl.trans cellsFa)
 obtain ⟨y0, y1, y2, rfl⟩ := list3 hxl
 have t0 := hf 0 _ rfl
 have t1 := hf 1 _ rfl
 have t2 := hf 2 _ rfl
 simp [cellsP, cellsEs, cellsRs] at t0 t1 t2
 subst hx
 simp only [DataW.weights, Tryz.underlying29] at hw
 obtain ⟨ro, rn, rc, L, rfl, Sr⟩ := viewR t2 (fun n hn => hw n (DataW.weights_mem_each (j := 2) (t := 27) rfl rfl n hn))
 obtain ⟨p, ep, Sp⟩ := viewPw t1 (fun n hn => hw n (DataW.weights_mem_each (j := 1) (t := 26) rfl rfl n hn))
 obtain ⟨ao, an, ac, rfl⟩ : ∃ ao an ac, v0 = .slice ao an ac := by
  rcases DataW.trod_slice Tryz.underlying22 t0 with h0 | ⟨a, len, cap, _, _, _, _, hcs, _⟩
  ·exact ⟨none, 0, 0, by simpa using h0.1⟩
  ·exact ⟨some a, len, cap, by simpa using hcs⟩
 obtain ⟨E, Se⟩ := K.view (d := y0.1) (p := y0.2) ⟨_, by simpa [Value.cells] using t0⟩ (fun n hn => hw n (DataW.weights_mem_each (j := 0) (t := 22) rfl rfl n hn))
 simp only [List.cons.injEq, and_true] at ep
 obtain ⟨rfl, rfl⟩ := ep
 exact ⟨⟨ao, an, ac, E, p, ro, rn, rc, L⟩, rfl, Se, Sp, Sr⟩
end Go.Proofs.YtcnciccljblkfaaGreat

