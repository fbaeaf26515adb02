/- LCp LRis LSor LSo2 LShg LCct LUp LUn TFg SXk SXa -/
import Derived.Test.YtaphmhbmhcahaaaGreatSe30
import Derived.Shelf.SlSortCmp.NoneTotal
import Derived.Lib.SliceRun
import Derived.Shelf.Spec.SlicesGrow
import Derived.Test.YtaphmhbmhcahaaaGreatProg
import Derived.Laws.AppendOwnNone
import Derived.Deep.LoopGhost
import Derived.Test.YtaphmhbmhcahaaaGreatSe17
import Derived.Test.YtaphmhbmhcahaaaGreatSe20
import Derived.Test.YtaphmhbmhcahaaaGreatSe29
import Derived.Test.YtaphmhbmhcahaaaGreatSe25
set_option maxRecDepth 100000
namespace Go.Proofs.YtaphmhbmhcahaaaGreat.K
section
open Go.RowKit Go.Lib

def AdjN (C : List En) (k : Nat) : Prop := ∀ i, i + 1 < k -> sameDot (C.getD (i + 1) en0) (C.getD i en0) = false
end
section
open Go.RowKit Go.Lib
attribute [local go_sem ↓] ld28_eq st28_eq ld26_eq run_eqD
attribute [local go_sem] zero_EC cells_EV EC_size
def GivesTB (B : Nat) (w w' : World) (e : Ending) (L : List En) : Prop := ∃ ao n c R er, e = .returned (.tuple #[.slice ao n c, .int .i64 er]) /\ ESrc w' ao n c R /\ Below B w w' /\ (∀ ad, ao = some ad -> B <= ad.block) /\ Settled L R er
end
section
open Go.RowKit Go.Lib
attribute [local go_sem ↓] ld28_eq st28_eq
attribute [local go_sem] zero_EC cells_EV EC_size
def firstE : List En -> Int
 | [] => 0
 | e :: r => if ceE e = 0 then firstE r else ceE e
def okTo (L : List En) (k : Nat) : Prop := ∀ i, i < k -> ceE (L.getD i en0) = 0
def Sorted (L R : List En) (er : Int) : Prop := (firstE L ≠ 0 /\ R = [] /\ er = firstE L) ∨ (firstE L = 0 /\ Settled L R er)
def GivesQ (w w' : World) (e : Ending) (L : List En) : Prop := ∃ ao n c R er, e = .returned (.tuple #[.slice ao n c, .int .i64 er]) /\ ESrc w' ao n c R /\ Below w.heap.size w w' /\ (∀ ad, ao = some ad -> w.heap.size <= ad.block) /\ Sorted L R er
theorem ESrc.cells {w : World} {ad : Addr} {n cap : Nat} {L : List En} (hS : ESrc w (some ad) n cap L) (j : Nat) (u : Value) (hj : (ecs L)[j]? = some u) : w.cell? (ad.add j) = some u := by
 have hjl : j < L.length * 4 := by have := (List.getElem?_eq_some_iff.1 hj).1; rwa [ecs_length] at this
 have e4 := ecs_at L (j / 4) (j % 4) (by omega) (by omega)
 rw [show j / 4 * 4 + j % 4 = j by omega, hj] at e4
 have A := hS.2.2.1 ad rfl (j / 4) (by rw [<- hS.1]; omega)
 have : j % 4 = 0 ∨ j % 4 = 1 ∨ j % 4 = 2 ∨ j % 4 = 3 := by omega
 rcases this with h | h | h | h
 ·rw [h] at e4; rw [show j = j / 4 * 4 by omega, A.c0]; exact e4.symm
 ·rw [h] at e4; have := A.c1; rw [add_add] at this; rw [show j = j / 4 * 4 + 1 by omega, this]; exact e4.symm
 ·rw [h] at e4; have := A.c2; rw [add_add] at this; rw [show j = j / 4 * 4 + 2 by omega, this]; exact e4.symm
 ·rw [h] at e4; have := A.c3; rw [add_add] at this; rw [show j = j / 4 * 4 + 3 by omega, this]; exact e4.symm
theorem ecs_onecell (L : List En) : ∀ u ∈ ecs L, u.oneCell' = true := by
 intro u hu
 obtain ⟨l, hl, hv⟩ := List.mem_flatten.1 hu
 obtain ⟨e, _, rfl⟩ := List.mem_map.1 hl
 exact EC_one e u hv
theorem clone_any (ad : Addr) (n cap : Nat) (L : List En) (w : World) (hS : ESrc w (some ad) n cap L) :
  Calls Tryz.prog 49 #[.slice (some ad) n cap] w fun e w' => ∃ ao c, e = .returned (.slice ao n c) /\ OwnE w.heap.size w.heap.size w w' ao c L := by
 obtain ⟨i0, hi, hz0, hz1, hz2⟩ := info_parts info28
 have q22 : ∀ w, (binOp .eql 22 (.slice (some ad) n cap) (.slice none 0 0)).run Tryz.prog w = .ok (.bool false) w := fun w => Lib.run_eql_slice_nil w _ _ (some ad) n cap 0 0 Tryz.underlying22
 have HS := hide hS
 clear hS
 go_enter Tryz.func49, Tryz.ntmps49
 go_wp2_with (at_builtin; refine wpList_append_own _ rfl _ _ 22 rfl w.heap.size 66 i0 (.agg #[.int .i64 0, .int .i64 0, .string ⟨#[]⟩, .int .i64 0]) 4 40 Tryz.underlying22 hi hz0 hz1 hz2 rfl (by decide) _ _ _ rfl (World.ownsRow_made w #[] 0 (Nat.le_refl _) (Nat.zero_le _) (by simp)) ad n cap (ecs L) rfl ?qc1 ?qc2 ?qc3 ?qc4 ?qc5 ?qc6 ?_)
 case qc1 => rw [ecs_length, HS.out.1]
 case qc2 =>
  intro j u hj
  have := HS.out.cells j u hj
  rw [(below_new w _).cell (World.block_lt_of_cell? _ _ this)]
  exact this
 case qc3 => exact ecs_onecell L
 case qc4 => rw [Nat.zero_add]; unfold maxLen; have := HS.out.2.2.2.2; omega
 case qc5 => rw [Nat.zero_add]; have := HS.out.2.2.2.2; omega
 case qc6 => simp
 intro v' w1 hown hgrow hnil
 have hown' : w1.ownsRow w.heap.size 66 4 v' n (ecs L) := by simpa using hown
 have hb : Below w.heap.size w w1 := ((Below.refl _ w).alloc (Nat.le_refl _) _).grown hgrow (by simp) (by intro k hk; simp [Value.ownBlock] at hk; omega)
 have HF : Hid (∃ ao c, v' = .slice ao n c /\ OwnE w.heap.size w.heap.size w w1 ao c L) := by
  rcases hown'.2 with ⟨h0, _⟩ | ⟨g, c, cur, rfl, r⟩
  ·exact absurd h0 hnil
  ·exact ⟨some ⟨g, 0, none⟩, c, rfl, by rw [HS.out.1]; exact hown', hb, hb.size, Nat.le_refl _⟩
 clear hown hown' hgrow hnil hb
 go_wp2_with fail
 go_ret
 obtain ⟨ao, c, rfl, h⟩ := HF.out
 exact ⟨ao, c, rfl, h⟩
theorem clone_nil (w : World) : Calls Tryz.prog 49 #[.slice none 0 0] w fun e w' => e = .returned (.slice none 0 0) /\ w' = w := by
 have q22 : ∀ w, (binOp .eql 22 (.slice none 0 0) (.slice none 0 0)).run Tryz.prog w = .ok (.bool true) w := fun w => Lib.run_eql_slice_nil w _ _ none 0 0 0 0 Tryz.underlying22
 go_enter Tryz.func49, Tryz.ntmps49
 go_wp2_with fail
 go_ret
 exact ⟨rfl, rfl⟩
end
section
open Go.RowKit Go.Lib
attribute [local go_sem ↓] ld28_eq st28_eq
attribute [local go_sem] zero_EC cells_EV EC_size
end
end Go.Proofs.YtaphmhbmhcahaaaGreat.K
namespace Go.Proofs
open Go.Shelf
def Tryz.growEn_ren : Go.Shelf.Ren := ⟨fun | 4 => 149 | n => n, fun | 22 => 22 | 25 => 66 | 3 => 3 | 4 => 4 | 9 => 9 | 20 => 20 | 0 => 0 | n => n, fun | n => n⟩
end Go.Proofs
namespace Go.Proofs.YtaphmhbmhcahaaaGreat.K
section
open Go.RowKit Go.Lib

end
section
open Go.RowKit

def code (e : En) : Int := e.rep * 1000000000 + e.num
end
section
open Go.RowKit Go.Lib
attribute [local go_sem ↓] ld28_eq st28_eq
attribute [local go_sem] zero_EC cells_EV EC_size fold_EC
def UnionOf (A B R : List En) (er : Int) : Prop := (¬ (chk A = 0 /\ chk B = 0) /\ R = [] /\ er = 1) ∨ ((chk A = 0 /\ chk B = 0) /\ Settled (A ++ B) R er)
def GivesU (w w' : World) (e : Ending) (A B : List En) : Prop := ∃ ao n c R er, e = .returned (.tuple #[.slice ao n c, .int .i64 er]) /\ ESrc w' ao n c R /\ Below w.heap.size w w' /\ UnionOf A B R er
def GivesUN (w w' : World) (e : Ending) (A B : List En) : Prop := ∃ ao n c R er, e = .returned (.tuple #[.slice ao n c, .int .i64 er]) /\ ESrc w' ao n c R /\ Below w.heap.size w w' /\ (∀ ad, ao = some ad -> w.heap.size <= ad.block) /\ UnionOf A B R er
end
end Go.Proofs.YtaphmhbmhcahaaaGreat.K
namespace Go.Proofs.YtaphmhbmhcahaaaGreat
section
open Go.RowKit
structure FcN (N : Nat) (f : Fc) : Prop where
 a : ∀ ad, f.ao = some ad -> N <= ad.block
 p : PNew N f.p
 r : ∀ ad, f.ro = some ad -> N <= ad.block
 q : ∀ c ∈ f.rs, PNew N c.p
def FcR (f : Fc) : Prop := f.rn <= f.rc /\ (f.ro = none -> f.rc = 0)
theorem FcOk.row {w : World} {f : Fc} (h : FcOk w f) (hr : FcR f) : RcT w f.ro f.rn f.rc f.rs := ⟨h.rs, hr.1, hr.2⟩
def fz0 : Fc := ⟨none, 0, 0, [], pv0, none, 0, 0, []⟩
theorem fz0_ok (w : World) : FcOk w fz0 := ⟨⟨rfl, fun _ => ⟨rfl, rfl⟩, fun ad h => (by cases h), fun e he => (by cases he), Nat.zero_le _⟩, PSrc.zero w, RcS.empty w⟩
theorem zero_FaZ : (#[.slice none 0 0, .slice none 0 0, .slice none 0 0, .slice none 0 0] : Array Value) = FaC (mkF fz0) := rfl
def bldF (a : Array (Nat × Value)) : Sem Value := Instr.build 59 a
theorem bldF_eq (a : Array (Nat × Value)) : Instr.build 59 a = bldF a := rfl
def FcD (w w' : World) (e : Ending) (D : Fc -> Int -> Prop) : Prop := ∃ f er, e = .returned (.tuple #[FaV (mkF f), .int .i64 er]) /\ FcOk w' f /\ FcR f /\ FcN w.heap.size f /\ Below w.heap.size w w' /\ D f er
theorem canon_wt2 {P Q : Pst} (hP : InForm P) (hQ : InForm Q) : (1 + P.cloud.length) + ((1 + Q.cloud.length) + 0) <= 8796093022207 := by
 have h1 := (canon_len (canon_iff.2 hP : CanonOf (runsAt P) P)).1
 have h2 := (canon_len (canon_iff.2 hQ : CanonOf (runsAt Q) Q)).1
 omega
def JnOf (c : Int) (f g h : Fc) (er : Int) : Prop := (¬ (FormF f /\ FormF g) /\ er = 1 /\ h = fz0) ∨ (FormF f /\ FormF g /\ ∃ R e, K.UnionOf f.es g.es R e /\ ((e ≠ 0 /\ er = (if c = 0 then e else c) /\ h = fz0) ∨ (e = 0 /\ er = 0 /\ h.es = R /\ CanonOf (runsOf [f.p, g.p]) h.p.P /\ UnOf f.rs g.rs h.rs /\ h.rn <= f.rn + g.rn)))
theorem bsP2_wt {p q : Pv} (hP : InForm p.P) (hQ : InForm q.P) : wt [p, q] <= 8796093022207 := canon_wt2 hP hQ
def bsPs (a : Array (Nat × Value)) : Sem Value := Instr.buildSlice 99 2 a
theorem bsPs_eq (a : Array (Nat × Value)) : Instr.buildSlice 99 2 a = bsPs a := rfl
theorem run_bsPs (p q : Pv) (w : World) : (bsPs #[(0, .agg (PC p)), (1, .agg (PC q))]).run Tryz.prog w = .ok (.slice (some ⟨w.heap.size, 0, none⟩) 2 2) (w.alloc (.cells #[.slice p.vo p.vn p.vc, .slice p.co p.cn p.cc, .slice q.vo q.vn q.vc, .slice q.co q.cn q.cc] 26)) := by kernel_rfl
theorem prow2 (w : World) (p q : Pv) (hp : PSrc w p) (hq : PSrc w q) : PRow (w.alloc (.cells #[.slice p.vo p.vn p.vc, .slice p.co p.cn p.cc, .slice q.vo q.vn q.vc, .slice q.co q.cn q.cc] 26)) (some ⟨w.heap.size, 0, none⟩) 2 [p, q] := by
 refine prow_lit _ w.heap.size [p, q] _ rfl 26 2 rfl (heap_alloc_new w _) (fun x hx => ?_)
 rcases List.mem_cons.1 hx with rfl | hx
 ·exact hp.below (below_new w _)
 ·obtain rfl := List.mem_singleton.1 hx
  exact hq.below (below_new w _)
end
section
open Go.RowKit
variable {w w' : World} {g : Nat}
def SwBox (w : World) (g : Nat) (m : FacV) : Prop := w.heap[g]? = some (.cells (FaC m) 29 (0, 0))
theorem SwBox.lt {m : FacV} (h : SwBox w g m) : g < w.heap.size := (Array.getElem?_eq_some_iff.1 h).1
theorem SwBox.below {m : FacV} (h : SwBox w g m) (hb : Below w.heap.size w w') : SwBox w' g m := (hb.block g h.lt).trans h
theorem SwBox.c0 {m : FacV} (h : SwBox w g m) : w.cell? ⟨g, 0, none⟩ = some (.slice m.addso m.addsn m.addsc) := by unfold SwBox at h; simp [World.cell?, h, FaC]
theorem SwBox.c1 {m : FacV} (h : SwBox w g m) : w.cell? ⟨g, 1, none⟩ = some (.slice m.veco m.vecn m.vecc) := by unfold SwBox at h; simp [World.cell?, h, FaC]
theorem SwBox.c2 {m : FacV} (h : SwBox w g m) : w.cell? ⟨g, 2, none⟩ = some (.slice m.cloudo m.cloudn m.cloudc) := by unfold SwBox at h; simp [World.cell?, h, FaC]
theorem SwBox.c3 {m : FacV} (h : SwBox w g m) : w.cell? ⟨g, 3, none⟩ = some (.slice m.recso m.recsn m.recsc) := by unfold SwBox at h; simp [World.cell?, h, FaC]
theorem SwBox_new (w : World) (m : FacV) : SwBox (w.alloc (.cells (FaC m) 29)) w.heap.size m := by unfold SwBox; rw [heap_alloc_new]
def ldSw (v : Value) : Sem Value := Instr.loadAt 29 v
theorem ldSw_eq (v : Value) : Instr.loadAt 29 v = ldSw v := rfl
def stSw (p v : Value) : Sem Unit := Instr.storeAt 29 p v
theorem stSw_eq (p v : Value) : Instr.storeAt 29 p v = stSw p v := rfl
theorem sizeSw : (Tryz.prog.info? 29).map (·.size) = some 4 := by kernel_rfl
theorem SwBox.range {m : FacV} (h : SwBox w g m) : w.rangeAt g 0 (FaC m).toList := by
 intro j v hv
 rw [Nat.zero_add]
 unfold SwBox at h
 simp only [Array.getElem?_toList] at hv
 simp [World.cell?, h, hv]
theorem run_lvSw {m : FacV} (A : SwBox w g m) : (loadVar 29 ⟨g, 0, none⟩).run Tryz.prog w = .ok (FaV m) w := by
 have := run_loadVar_mid (P := Tryz.prog) w g 0 29 (FaC m).toList _ A.range Tryz.underlying29 rfl (by rw [sizeSw]; rfl)
 simpa using this
theorem run_ldSw {m : FacV} (A : SwBox w g m) : (ldSw (.pointer (some ⟨g, 0, none⟩))).run Tryz.prog w = .ok (.agg (FaC m)) w := by
 unfold ldSw
 simp only [Instr.loadAt, Instr.sureAddr, Sem.run_bind, Sem.run_pure, Result.andThen]
 exact run_lvSw A
theorem run_stSw {m m' : FacV} (A : SwBox w g m) : (stSw (.pointer (some ⟨g, 0, none⟩)) (.agg (FaC m'))).run Tryz.prog w = .ok () (w.setRow g (FaC m')) := by
 unfold stSw
 have h := run_storeCells_from (P := Tryz.prog) g 29 (FaC m').toList 0 (FaC m) w A (by simp [FaC]) (FaC_one m')
 cases hq : Tryz.prog.info? 29 with
 | none => have := sizeSw; simp [hq] at this
 | some x =>
  have hs : x.size = 4 := by have := sizeSw; simpa [hq] using this
  simp only [Instr.storeAt, Instr.sureAddr, Sem.run_bind, Sem.run_pure, Result.andThen, storeVar, sizeOf, typeInfo, cells_FaV, FaC_size]
  simp at h
  simp [h, hq, hs]
theorem SwBox.setRow {m m' : FacV} (A : SwBox w g m) : SwBox (w.setRow g (FaC m')) g m' := setRow_heap w g _ _ _ _ A
theorem res1Sw {m : FacV} {fn : Func} {p : Tmp} (h : fn.results = #[.cell p 29]) {tmps : Array Value} (hp : tmps.getD p undef = .pointer (some ⟨g, 0, none⟩)) (A : SwBox w g m) :
  (results fn tmps).run Tryz.prog w = .ok (FaV m) w := by
 have hl := run_lvSw A
 simp only [results, h]
 rw [Array.getD_eq_getD_getElem?] at hp
 simp [hp, asAddr, hl]
theorem SwBox.cs {w : World} {g : Nat} {f : Fc} (h : SwBox w g (mkF f)) : w.cell? ⟨g, 0, none⟩ = some (.slice f.ao f.an f.ac) /\ w.cell? ⟨g, 3, none⟩ = some (.slice f.ro f.rn f.rc) := ⟨h.c0, h.c3⟩
theorem SwBox.past {w : World} {g : Nat} {f : Fc} (h : SwBox w g (mkF f)) : PAt w ⟨g, 1, none⟩ f.p := ⟨h.c1, h.c2⟩
theorem SwBox.ne {W : World} {g : Nat} {m : FacV} (A : SwBox W g m) {a : Addr} {v : Value} (hc : W.cell? a = some v) (hv : ∀ o n c, v ≠ .slice o n c) : a.block ≠ g := by
 rintro rfl
 obtain ⟨b, o, k⟩ := a
 unfold SwBox at A
 have h := World.cell?_spot hc
 obtain rfl : k = none := h
 simp only [World.cell?, A] at hc
 rcases o with _ | _ | _ | _ | o <;> simp [FaC] at hc
 all_goals exact absurd hc.symm (hv _ _ _)
theorem cell_offW {W : World} {g : Nat} {a : Addr} (c : Array Value) (h : a.block ≠ g) : (W.setRow g c).cell? a = W.cell? a := by
 unfold World.cell?; rw [setRow_other _ _ _ _ h]
theorem esrc_offW {W : World} {g : Nat} {m : FacV} {ao : Option Addr} {n cap : Nat} {L : List K.En} (A : SwBox W g m) (h : K.ESrc W ao n cap L) (c : Array Value) : K.ESrc (W.setRow g c) ao n cap L := by
 refine ⟨h.1, h.2.1, fun ad e t ht => ?_, h.2.2.2⟩
 have B := h.2.2.1 ad e t ht
 have hb : (ad.add (t * 4)).block ≠ g := A.ne B.c0 (fun _ _ _ h => by cases h)
 exact ⟨by rw [cell_offW c hb]; exact B.c0, by rw [cell_offW c (by rw [block_add]; exact hb)]; exact B.c1, by rw [cell_offW c (by rw [block_add]; exact hb)]; exact B.c2, by rw [cell_offW c (by rw [block_add]; exact hb)]; exact B.c3⟩
theorem psrc_offW {W : World} {g : Nat} {m : FacV} {p : Pv} (A : SwBox W g m) (h : PSrc W p) (c : Array Value) : PSrc (W.setRow g c) p := by
 refine ⟨⟨h.vec.1, h.vec.2.1, fun ad e t ht => ?_⟩, ⟨h.cloud.len, h.cloud.nil, fun ad e t ht => ?_, h.cloud.big, h.cloud.cap⟩, h.big⟩
 ·have B := h.vec.2.2 ad e t ht
  rw [cell_offW c (A.ne B (fun _ _ _ h => by cases h))]; exact B
 ·have B := h.cloud.cell ad e t ht
  have hb := A.ne B.c0 (fun _ _ _ h => by cases h)
  exact ⟨by rw [cell_offW c hb]; exact B.c0, by rw [cell_offW c (by rw [block_add]; exact hb)]; exact B.c1, by rw [cell_offW c (by rw [block_add]; exact hb)]; exact B.c2⟩
theorem rcs_offW {W : World} {g : Nat} {m : FacV} {ao : Option Addr} {n cap : Nat} {L : List Rc} (A : SwBox W g m) (h : RcS W ao n cap L) (c : Array Value) : RcS (W.setRow g c) ao n cap L := by
 refine ⟨h.len, h.nil, fun ad ha t ht => ?_, fun r hr => ⟨psrc_offW A (h.ok r hr).1 c, (h.ok r hr).2⟩, h.big⟩
 have B := h.at_ ad ha t ht
 have hb := A.ne B.c0 (fun _ _ _ h => by cases h)
 exact ⟨by rw [cell_offW c hb]; exact B.c0, by rw [cell_offW c (by rw [block_add]; exact hb)]; exact B.c1, by rw [cell_offW c (by rw [block_add]; exact hb)]; exact B.c2⟩
theorem FcOk.offW {W : World} {g : Nat} {m : FacV} {f : Fc} (h : FcOk W f) (A : SwBox W g m) (c : Array Value) : FcOk (W.setRow g c) f := ⟨esrc_offW A h.es c, psrc_offW A h.p c, rcs_offW A h.rs c⟩
theorem res2Sw {w : World} {g : Nat} {fn : Func} {p q : Tmp} {m : FacV} {v : Value} (h : fn.results = #[.cell p 29, .tmp q]) {tmps : Array Value} (hp : tmps.getD p undef = .pointer (some ⟨g, 0, none⟩)) (hq : tmps.getD q undef = v) (A : SwBox w g m) :
  (results fn tmps).run Tryz.prog w = .ok (.tuple #[FaV m, v]) w := by
 have hl := run_lvSw A
 simp only [results, h]
 rw [Array.getD_eq_getD_getElem?] at hp hq
 simp [hp, hq, asAddr, hl]
def bldS (a : Array (Nat × Value)) : Sem Value := Instr.build 29 a
theorem bldS_eq (a : Array (Nat × Value)) : Instr.build 29 a = bldS a := rfl
theorem run_bldS0 (w : World) : (bldS #[]).run Tryz.prog w = .ok (.agg (FaC (mkF fz0))) w := by kernel_rfl
theorem run_bldS (a b : Option Addr) (n c m d : Nat) (p : Pv) (w : World) : (bldS #[(0, .slice a n c), (1, .agg (PC p)), (2, .slice b m d)]).run Tryz.prog w = .ok (.agg (FaC (mkF ⟨a, n, c, [], p, b, m, d, []⟩))) w := by kernel_rfl
theorem bldF_lit (a : Option Addr) (n c : Nat) (w : World) : (bldF #[(0, .slice a n c)]).run Tryz.prog w = .ok (.agg (FaC (mkF ⟨a, n, c, [], pv0, none, 0, 0, []⟩))) w := by kernel_rfl
def SwE (w w' : World) (e : Ending) (D : Fc -> Int -> Prop) : Prop := ∃ s er, e = .returned (.tuple #[FaV (mkF s), .int .i64 er]) /\ FcOk w' s /\ Below w.heap.size w w' /\ D s er
def SwS (w w' : World) (e : Ending) (D : Fc -> Prop) : Prop := ∃ s, e = .returned (FaV (mkF s)) /\ FcOk w' s /\ Below w.heap.size w w' /\ D s
end
section
open Go.RowKit
def sx1 : K.En := ⟨0, 1, ⟨#[65]⟩, 5⟩
def sxP : Pst := ⟨[1], []⟩
def A1D (s : Fc) : Prop := s.es = [sx1] /\ s.an = 1 /\ s.p.P = sxP /\ s.rs = [] /\ s.rn = 0
def sxC : Array Value := #[.int .i64 0, .int .i64 1, .string ⟨#[65]⟩, .int .i64 5]
def bsX1 (a : Array (Nat × Value)) : Sem Value := Instr.buildSlice 22 1 a
theorem bsX1_eq (a : Array (Nat × Value)) : Instr.buildSlice 22 1 a = bsX1 a := rfl
theorem run_bsX1 (w : World) : (bsX1 #[(0, .agg #[.int .i64 0, .int .i64 1, .string ⟨#[65]⟩, .int .i64 5])]).run Tryz.prog w = .ok (.slice (some ⟨w.heap.size, 0, none⟩) 1 1) (w.alloc (.cells sxC 66)) := by kernel_rfl
theorem run_bldS01 (a v : Option Addr) (n c m d : Nat) (w : World) : (bldS #[(0, .slice a n c), (1, .agg #[.slice v m d, .slice none 0 0])]).run Tryz.prog w = .ok (.agg #[.slice a n c, .slice v m d, .slice none 0 0, .slice none 0 0]) w := by kernel_rfl
theorem sxC_src (w : World) (g : Nat) (hg : w.heap.size = g) : K.ESrc (w.alloc (.cells sxC 66)) (some ⟨g, 0, none⟩) 1 1 [sx1] := by
 subst hg
 refine ⟨rfl, (fun h => by cases h), fun ad h t ht => ?_, ?_, (show (1 : Nat) <= 3518437208883 by decide)⟩
 ·obtain rfl := Option.some.inj h
  have h1 := heap_alloc_new w (.cells sxC 66)
  have ht2 : t < 1 := ht
  generalize w.alloc (.cells sxC 66) = W at h1 ⊢
  generalize w.heap.size = g at h1 ⊢
  clear h ht
  obtain rfl : t = 0 := by omega
  refine ⟨?_, ?_, ?_, ?_⟩ <;> simp [Addr.add, World.cell?, h1, sxC, sx1]
 ·intro e he
  obtain rfl := List.mem_singleton.1 he
  exact (show (1 : Nat) <= maxLen by decide)
theorem madeSx (w : World) (m : Fc) (g : Nat) (hg : w.heap.size = g) : ∃ w' : World, (stSw (.pointer (some ⟨g, 0, none⟩)) (.agg (FaC (mkF m)))).run Tryz.prog (w.alloc (.cells (FaC (mkF fz0)) 29)) = .ok () w' /\ SwBox w' g (mkF m) /\ Below w.heap.size w w' /\ w'.heap.size = w.heap.size + 1 := by
 subst hg
 exact ⟨_, run_stSw (SwBox_new w _), (SwBox_new w _).setRow, below_setRow (below_new w _) (Nat.le_refl _), by simp [World.setRow]⟩
attribute [local go_sem ↓] ldP_eq stP_eq ldSw_eq stSw_eq bldS_eq bsX1_eq bldE_eq bldP_eq bldD_eq
attribute [local go_sem] cells_PV PC_size cells_FaV FaC_size zero_FaZ run_bldS01 run_bsX1 run_bldE run_bldD run_bldP1
theorem a1_any (w : World) : Calls Tryz.prog 18 #[] w fun e w' => SwS w w' e A1D := by
 have b0 := below_new w (.cells (FaC (mkF fz0)) 29)
 have X0 := SwBox_new w (mkF fz0)
 obtain ⟨w0, hw0⟩ : ∃ w0, w.alloc (.cells (FaC (mkF fz0)) 29) = w0 := ⟨_, rfl⟩
 obtain ⟨G, hG⟩ : ∃ G, w.heap.size = G := ⟨_, rfl⟩
 rw [hw0] at b0 X0
 rw [hG] at X0
 have HX := hide X0
 have HB := hide b0
 have HGs : Hid (w.heap.size = G) := hG
 clear b0 X0
 obtain ⟨g4, hg4⟩ : ∃ g, w0.heap.size = g := ⟨_, rfl⟩
 have lb := run_bsX1 w0
 have S4 := sxC_src w0 g4 hg4
 have b4 := below_new w0 (.cells sxC 66)
 have z4 : (w0.alloc (.cells sxC 66)).heap.size = g4 + 1 := by simp [hg4]
 obtain ⟨w4, hw4⟩ : ∃ w4, w0.alloc (.cells sxC 66) = w4 := ⟨_, rfl⟩
 rw [hw4] at lb S4 b4 z4
 rw [hg4] at lb
 have V5 := vsrc_lit w4 3 #[.int .i64 1] [1] rfl (g4 + 1) 1 z4 rfl
 have b5 := below_new w4 (.cells #[.int .i64 1] 3)
 obtain ⟨w5, hw5⟩ : ∃ w5, w4.alloc (.cells #[.int .i64 1] 3) = w5 := ⟨_, rfl⟩
 rw [hw5] at V5 b5
 have A5 := (HX.out.below b4).below b5
 have HB5 := hide (HB.out.trans ((b4.trans (b5.mono b4.size)).mono HB.out.size))
 have HF5 : FcOk w5 ⟨some ⟨g4, 0, none⟩, 1, 1, [sx1], ⟨some ⟨g4 + 1, 0, none⟩, 1, 1, none, 0, 0, sxP⟩, none, 0, 0, []⟩ := ⟨S4.below b5, ⟨V5, SSrc.empty _, (show (1 : Nat) <= 17592186044415 by decide)⟩, RcS.empty _⟩
 have HE1 : Hid (SwBox (w5.setRow G (FaC (mkF ⟨some ⟨g4, 0, none⟩, 1, 1, [sx1], ⟨some ⟨g4 + 1, 0, none⟩, 1, 1, none, 0, 0, sxP⟩, none, 0, 0, []⟩))) G (mkF ⟨some ⟨g4, 0, none⟩, 1, 1, [sx1], ⟨some ⟨g4 + 1, 0, none⟩, 1, 1, none, 0, 0, sxP⟩, none, 0, 0, []⟩)) := A5.setRow
 have HE : Hid (SwS w (w5.setRow G (FaC (mkF ⟨some ⟨g4, 0, none⟩, 1, 1, [sx1], ⟨some ⟨g4 + 1, 0, none⟩, 1, 1, none, 0, 0, sxP⟩, none, 0, 0, []⟩))) (.returned (FaV (mkF ⟨some ⟨g4, 0, none⟩, 1, 1, [sx1], ⟨some ⟨g4 + 1, 0, none⟩, 1, 1, none, 0, 0, sxP⟩, none, 0, 0, []⟩))) A1D) := ⟨_, rfl, HF5.offW A5 _, below_setRow HB5.out (by rw [HGs.out]; exact Nat.le_refl _), rfl, rfl, rfl, rfl, rfl⟩
 have stz := run_stSw (m' := mkF ⟨some ⟨g4, 0, none⟩, 1, 1, [sx1], ⟨some ⟨g4 + 1, 0, none⟩, 1, 1, none, 0, 0, sxP⟩, none, 0, 0, []⟩) A5
 replace stz : (stSw (.pointer (some ⟨G, 0, none⟩)) (.agg #[.slice (some ⟨g4, 0, none⟩) 1 1, .slice (some ⟨g4 + 1, 0, none⟩) 1 1, .slice none 0 0, .slice none 0 0])).run Tryz.prog w5 = .ok () (w5.setRow G (FaC (mkF ⟨some ⟨g4, 0, none⟩, 1, 1, [sx1], ⟨some ⟨g4 + 1, 0, none⟩, 1, 1, none, 0, 0, sxP⟩, none, 0, 0, []⟩))) := stz
 clear S4 b4 V5 b5 A5 HF5
 go_enter Tryz.func18, Tryz.ntmps18
 go_wp2_with fail
 refine bodyPost_ret (res1Sw rfl rfl HE1.out) rfl ?_
 exact HE.out
end
end Go.Proofs.YtaphmhbmhcahaaaGreat
