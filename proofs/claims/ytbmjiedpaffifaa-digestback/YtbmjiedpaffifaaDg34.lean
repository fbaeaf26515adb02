/- ZCk YNu UWr -/
import Derived.Test.YtbmjiedpaffifaaDg26
import Derived.Test.YtbmjiedpaffifaaDg29
import Derived.Test.YtbmjiedpaffifaaDg33
import Derived.Test.YtbmjiedpaffifaaDg19
import Derived.Test.YtbmjiedpaffifaaDg05
import Derived.Test.YtbmjiedpaffifaaDg18
import Derived.Test.YtbmjiedpaffifaaDg20
import Derived.Test.YtbmjiedpaffifaaDg22
namespace Go.Proofs.Ytbmjiedpaffifaa
open Go.RowKit
attribute [local go_sem ↓] ldP_eq stP_eq ldDi_eq stDi_eq
attribute [local go_sem] cells_PV PC_size cells_DiV DiC_size
variable {w w' w2 W W' : World} {g : Nat}

/-- a digest -/
structure Dg where
  h : Pv
  l : Pv
def mkD (d : Dg) : DigV := ⟨d.h.vo, d.h.vn, d.h.vc, d.h.co, d.h.cn, d.h.cc, d.l.vo, d.l.vn, d.l.vc, d.l.co, d.l.cn, d.l.cc⟩
def DgOk (w : World) (d : Dg) : Prop := PSrc w d.h ∧ PSrc w d.l
theorem DgOk.below {d : Dg} (h : DgOk w d) (b : Below w.heap.size w w') : DgOk w' d := ⟨h.1.below b, h.2.below b⟩
theorem DiBox.heard {d : Dg} (h : DiBox w g (mkD d)) : PAt w ⟨g, 0, none⟩ d.h := ⟨h.c0, by rw [Addr.add_lit]; exact h.c1⟩
theorem DiBox.live {d : Dg} (h : DiBox w g (mkD d)) : PAt w ⟨g, 2, none⟩ d.l := ⟨h.c2, by rw [Addr.add_lit]; exact h.c3⟩
def InP (a b : Pst) : Prop := ∀ r, r < 16 → ∀ n, mem (runsAt a r) n → mem (runsAt b r) n
/-- in form -/
def FormD (H L : Pst) : Prop := InForm H ∧ InForm L ∧ InP L H
/-- what a check answers -/
def CkD (w w' : World) (e : Ending) (P : Prop) : Prop := ∃ x, e = .returned (.int .i64 x) ∧ ((x = 1 ∧ ¬ P) ∨ (x = 0 ∧ P)) ∧ Below w.heap.size w w'
set_option maxRecDepth 100000 in
set_option maxHeartbeats 1600000 in
theorem dcheck_any (d : Dg) (w : World) (hS : DgOk w d) : Calls Try.prog 47 #[DiV (mkD d)] w fun e w' => CkD w w' e (FormD d.h.P d.l.P) := by
  have HX := hide (DiBox_new w (mkD d))
  have HB := hide (below_new w (.cells (DiC (mkD d)) 39))
  have HS := hide (hS.below HB.out)
  clear hS
  obtain ⟨wk, hwk⟩ : ∃ wk, w.alloc (.cells (DiC (mkD d)) 39) = wk := ⟨_, rfl⟩
  obtain ⟨G, hG⟩ : ∃ G, w.heap.size = G := ⟨_, rfl⟩
  rw [hwk] at HX HB HS
  rw [hG] at HX
  have l1 := run_ldP HX.out.heard
  go_enter Try.func47, Try.ntmps47
  go_wp2_with fail
  clear hwk hG
  refine (isNormP_any d.h _ HS.out.1).mono ?_
  rintro e w2 ⟨b, rfl, hb, b2⟩
  have HB2 := hide (HB.out.trans (b2.mono HB.out.size))
  have HX2 := hide (HX.out.below b2)
  have HS2 := hide (HS.out.below b2)
  clear b2 l1 HX HB HS
  cases b with
  | false =>
    have HN : Hid (¬ FormD d.h.P d.l.P) := fun h => by have := hb.out.2 h.1; cases this
    clear hb
    go_wp2_with fail
    go_ret
    exact ⟨1, rfl, .inl ⟨rfl, HN.out⟩, HB2.out⟩
  | true =>
    have H1 : Hid (InForm d.h.P) := hb.out.1 rfl
    clear hb
    have l2 := run_ldP HX2.out.live
    go_wp2_with fail
    refine (isNormP_any d.l _ HS2.out.2).mono ?_
    rintro e w3 ⟨b, rfl, hb, b3⟩
    have HB3 := hide (HB2.out.trans (b3.mono HB2.out.size))
    have HX3 := hide (HX2.out.below b3)
    have HS3 := hide (HS2.out.below b3)
    clear b3 l2 HX2 HB2 HS2
    cases b with
    | false =>
      have HN : Hid (¬ FormD d.h.P d.l.P) := fun h => by have := hb.out.2 h.2.1; cases this
      clear hb
      go_wp2_with fail
      go_ret
      exact ⟨1, rfl, .inl ⟨rfl, HN.out⟩, HB3.out⟩
    | true =>
      have H2 : Hid (InForm d.l.P) := hb.out.1 rfl
      clear hb
      have l3 := run_ldP HX3.out.live
      have l4 := run_ldP HX3.out.heard
      go_wp2_with fail
      refine (pastWithin_any d.l d.h _ HS3.out.2 HS3.out.1).mono ?_
      rintro e w4 ⟨x, rfl, hx, b4⟩
      have HB4 := hide (HB3.out.trans (b4.mono HB3.out.size))
      have HI : Hid (BIf x (InP d.l.P d.h.P)) := hx
      clear hx b4 l3 l4
      cases x with
      | false =>
        have HN : Hid (¬ FormD d.h.P d.l.P) := fun h => by have := HI.out.2 h.2.2; cases this
        clear HI
        go_wp2_with fail
        go_ret
        exact ⟨1, rfl, .inl ⟨rfl, HN.out⟩, HB4.out⟩
      | true =>
        have HN : Hid (FormD d.h.P d.l.P) := ⟨H1.out, H2.out, HI.out.1 rfl⟩
        clear HI
        go_wp2_with fail
        go_ret
        exact ⟨0, rfl, .inr ⟨rfl, HN.out⟩, HB4.out⟩
set_option maxRecDepth 100000 in
set_option maxHeartbeats 1600000 in
theorem rinForm14_any (d : Dg) (w : World) (hS : DgOk w d) : Calls Try.prog 23 #[DiV (mkD d)] w fun e w' => GivB w w' e (FormD d.h.P d.l.P) := by
  have HX := hide (DiBox_new w (mkD d))
  have HB := hide (below_new w (.cells (DiC (mkD d)) 39))
  have HS := hide (hS.below HB.out)
  clear hS
  obtain ⟨wk, hwk⟩ : ∃ wk, w.alloc (.cells (DiC (mkD d)) 39) = wk := ⟨_, rfl⟩
  obtain ⟨G, hG⟩ : ∃ G, w.heap.size = G := ⟨_, rfl⟩
  rw [hwk] at HX HB HS
  rw [hG] at HX
  have l1 := run_ldP HX.out.heard
  go_enter Try.func23, Try.ntmps23
  go_wp2_with fail
  clear hwk hG
  refine (refIsNorm_any d.h _ HS.out.1).mono ?_
  rintro e w2 ⟨b, rfl, hb, b2⟩
  have HB2 := hide (HB.out.trans (b2.mono HB.out.size))
  have HX2 := hide (HX.out.below b2)
  have HS2 := hide (HS.out.below b2)
  have HI1 : Hid (BIf b (InForm d.h.P)) := hb
  clear b2 l1 HX HB HS hb
  cases b with
  | false =>
    have HN : Hid (BIf false (FormD d.h.P d.l.P)) := ⟨(fun h => by cases h), fun h => HI1.out.2 h.1⟩
    clear HI1
    go_wp2_with fail
    go_ret
    exact ⟨false, rfl, HN.out, HB2.out⟩
  | true =>
    have H1 : Hid (InForm d.h.P) := HI1.out.1 rfl
    clear HI1
    have l2 := run_ldP HX2.out.live
    go_wp2_with fail
    refine (refIsNorm_any d.l _ HS2.out.2).mono ?_
    rintro e w3 ⟨b, rfl, hb, b3⟩
    have HB3 := hide (HB2.out.trans (b3.mono HB2.out.size))
    have HX3 := hide (HX2.out.below b3)
    have HS3 := hide (HS2.out.below b3)
    have HI2 : Hid (BIf b (InForm d.l.P)) := hb
    clear b3 l2 HX2 HB2 HS2 hb
    cases b with
    | false =>
      have HN : Hid (BIf false (FormD d.h.P d.l.P)) := ⟨(fun h => by cases h), fun h => HI2.out.2 h.2.1⟩
      clear HI2
      go_wp2_with fail
      go_ret
      exact ⟨false, rfl, HN.out, HB3.out⟩
    | true =>
      have H2 : Hid (InForm d.l.P) := HI2.out.1 rfl
      clear HI2
      have l3 := run_ldP HX3.out.live
      have l4 := run_ldP HX3.out.heard
      go_wp2_with fail
      refine (refWithin_any d.l d.h _ HS3.out.2 HS3.out.1).mono ?_
      rintro e w4 ⟨x, rfl, hx, b4⟩
      have HB4 := hide (HB3.out.trans (b4.mono HB3.out.size))
      have HN : Hid (BIf x (FormD d.h.P d.l.P)) := ⟨fun h => ⟨H1.out, H2.out, hx.1 h⟩, fun h => hx.2 h.2.2⟩
      clear hx b4 l3 l4
      go_wp2_with fail
      go_ret
      exact ⟨x, rfl, HN.out, HB4.out⟩
set_option maxRecDepth 100000 in
set_option maxHeartbeats 1600000 in
theorem requal14_any (a b : Dg) (w : World) (hA : DgOk w a) (hB : DgOk w b) : Calls Try.prog 21 #[DiV (mkD a), DiV (mkD b)] w fun e w' => GivB w w' e (a.h.P = b.h.P ∧ a.l.P = b.l.P) := by
  have b1 := below_new w (.cells (DiC (mkD a)) 39)
  have b2 := below_new (w.alloc (.cells (DiC (mkD a)) 39)) (.cells (DiC (mkD b)) 39)
  have p2 := DiBox_new (w.alloc (.cells (DiC (mkD a)) 39)) (mkD b)
  rw [World.size_alloc] at p2
  have HXA := hide ((DiBox_new w (mkD a)).below b2)
  have HXB := hide p2
  have HBK := hide (b1.trans (b2.mono b1.size))
  have HSA := hide (hA.below HBK.out)
  have HSB := hide (hB.below HBK.out)
  obtain ⟨wk, hwk⟩ : ∃ wk, (w.alloc (.cells (DiC (mkD a)) 39)).alloc (.cells (DiC (mkD b)) 39) = wk := ⟨_, rfl⟩
  obtain ⟨G, hG⟩ : ∃ G, w.heap.size = G := ⟨_, rfl⟩
  rw [hwk] at HXA HXB HBK HSA HSB
  rw [hG] at HXA HXB
  clear b1 b2 p2 hA hB
  have l1 := run_ldP HXA.out.heard
  have l2 := run_ldP HXB.out.heard
  go_enter Try.func21, Try.ntmps21
  go_wp2_with fail
  clear hwk hG
  refine (samePast_any a.h b.h _ HSA.out.1 HSB.out.1).mono ?_
  rintro e w2 ⟨x, rfl, hx, b2⟩
  have HB2 := hide (HBK.out.trans (b2.mono HBK.out.size))
  have HXA2 := hide (HXA.out.below b2)
  have HXB2 := hide (HXB.out.below b2)
  have HSA2 := hide (HSA.out.below b2)
  have HSB2 := hide (HSB.out.below b2)
  have HI : Hid (BIf x (a.h.P = b.h.P)) := hx
  clear b2 hx l1 l2 HXA HXB HSA HSB HBK
  cases x with
  | false =>
    have HN : Hid (BIf false (a.h.P = b.h.P ∧ a.l.P = b.l.P)) := ⟨(fun h => by cases h), fun h => HI.out.2 h.1⟩
    clear HI
    go_wp2_with fail
    go_ret
    exact ⟨false, rfl, HN.out, HB2.out⟩
  | true =>
    have H1 : Hid (a.h.P = b.h.P) := HI.out.1 rfl
    clear HI
    have l3 := run_ldP HXA2.out.live
    have l4 := run_ldP HXB2.out.live
    go_wp2_with fail
    refine (samePast_any a.l b.l _ HSA2.out.2 HSB2.out.2).mono ?_
    rintro e w3 ⟨x, rfl, hx, b3⟩
    have HB3 := hide (HB2.out.trans (b3.mono HB2.out.size))
    have HN : Hid (BIf x (a.h.P = b.h.P ∧ a.l.P = b.l.P)) := ⟨fun h => ⟨H1.out, hx.1 h⟩, fun h => hx.2 h.2⟩
    clear hx b3 l3 l4
    go_wp2_with fail
    go_ret
    exact ⟨x, rfl, HN.out, HB3.out⟩
end Go.Proofs.Ytbmjiedpaffifaa
namespace Go.Proofs.Ytbmjiedpaffifaa.U
open Go.RowKit
variable {w w' w2 : World} {g : Nat}

theorem numB_step {y : Nat} (h : ¬ y < 128) : numB y = [(y : Int) % 128 + 128] ++ numB (y / 128) := by
  rw [numB_ge h]
  simp
theorem numB_stepLen {y : Nat} (h : ¬ y < 128) : (numB y).length = (numB (y / 128)).length + 1 := by rw [numB_ge h]; simp
set_option maxRecDepth 100000 in
theorem appendNum_any (ao : Option Addr) (n c : Nat) (Z : List Int) (x : Nat) (w : World) (S : BR w ao n c Z) (hx : x ≤ 9223372036854775807) (hn : n ≤ 140737488355000) : Calls Try.prog 103 #[.slice ao n c, .int .i64 (x : Int)] w fun r w' =>
    ∃ bo cc, r = .returned (.slice bo (n + (numB x).length) cc) ∧ BR w' bo (n + (numB x).length) cc (Z ++ numB x) ∧ Ap w w' ao bo := by
  have HL : Hid (n + (numB x).length ≤ 140737488355100) := by show _ ≤ _; have := numB_nine hx; omega
  have HS := hide S
  have HX := hide hx
  clear S hn hx
  go_enter Try.func103, Try.ntmps103
  go_wp2_with fail
  go_loopw [0, 1] (fun b i wr => ∃ (y : Nat) (m : Nat) (bo : Option Addr) (cc : Nat) (Y : List Int), i = .int .i64 y ∧ b = .slice bo m cc ∧ Hid (BR wr bo m cc Y ∧ Ap w wr ao bo ∧ y ≤ x ∧ Y ++ numB y = Z ++ numB x ∧ m + (numB y).length = n + (numB x).length)) (fun _ i _ => (intOf i).toNat)
  case atStart => exact ⟨x, n, ao, c, Z, rfl, rfl, HS.out, Ap.refl _ _, Nat.le_refl _, rfl, rfl⟩
  case round =>
    obtain ⟨y, m, bo, cc, Y, rfl, rfl, HI⟩ := hrel
    by_cases hlt : y < 128
    · have HM : Hid (m + 1 = n + (numB x).length ∧ Y ++ [(y : Int)] = Z ++ numB x) := by
        obtain ⟨-, -, -, e1, e2⟩ := HI.out
        rw [numB_lt hlt] at e1 e2
        exact ⟨e2, e1⟩
      go_wp2_with (at_builtin; refine HI.out.1.app1 (y : Int) (by have := HM.out.1; have := HL.out; omega) rfl (.tmp 16) (.tmp 19) rfl rfl rfl ?_; intro b5 c5 w5 S5 A5; have HS5 := hide S5; have HA5 := hide A5; clear S5 A5)
      go_ret
      refine ⟨b5, c5, ?_, ?_, HI.out.2.1.trans HA5.out⟩
      · rw [HM.out.1]; rfl
      · rw [← HM.out.1, ← HM.out.2]; exact HS5.out
    · have HM : Hid (m + 1 + (numB (y / 128)).length = n + (numB x).length ∧ Y ++ [(y : Int) % 128 + 128] ++ numB (y / 128) = Z ++ numB x) := by
        obtain ⟨-, -, -, e1, e2⟩ := HI.out
        rw [numB_step hlt] at e1
        rw [numB_stepLen hlt] at e2
        exact ⟨by omega, by rw [List.append_assoc]; exact e1⟩
      have HD : Hid (y / 128 < y ∧ y ≤ x) := ⟨by omega, HI.out.2.2.1⟩
      have HK1 : Hid (wrap64 ((y : Int) / 128) = ((y / 128 : Nat) : Int)) := by show _ = _; have := HX.out; have := HD.out.2; rw [w64 (by omega) (by omega)]; rfl
      have hge : (128 : Int) ≤ y := by omega
      go_wp2_with (at_builtin; refine HI.out.1.app1 ((y : Int) % 128 + 128) (by have := HM.out.1; have := HL.out; omega) rfl (.tmp 7) (.tmp 12) rfl rfl rfl ?_; intro b5 c5 w5 S5 A5; have HS5 := hide S5; have HA5 := hide (HI.out.2.1.trans A5); clear S5 A5)
      go_roundw
      case rel => exact ⟨y / 128, m + 1, b5, c5, _, by rw [HK1.out], rfl, HS5.out, HA5.out, by have := HD.out; omega, HM.out.2, HM.out.1⟩
      case measure => rw [HK1.out]; have := HD.out; simp [intOf]; omega
end Go.Proofs.Ytbmjiedpaffifaa.U
namespace Go.Proofs.Ytbmjiedpaffifaa.U
open Go.RowKit
variable {w w' w2 : World} {g : Nat}

/-- the writer at g: its row, and whether it is spoilt -/
structure Wr (w : World) (g : Nat) (ao : Option Addr) (n cap : Nat) (Z : List Int) (sp : Bool) : Prop where
  box : w.heap[g]? = some (.cells #[.slice ao n cap, .bool sp] 152 (0, 0))
  row : BR w ao n cap Z
  ne : ∀ k, blk ao = some k → k ≠ g
  nil : sp = true → Z = []
theorem cell_of_box {cs : Array Value} {t : TypeId} (h : w.heap[g]? = some (.cells cs t (0, 0))) (k : Nat) : w.cell? ⟨g, k, none⟩ = cs[k]? := by simp [World.cell?, h]
theorem set0 {u v b : Value} {t : TypeId} (h : w.heap[g]? = some (.cells #[u, b] t (0, 0))) : (w.setCell ⟨g, 0, none⟩ v).heap[g]? = some (.cells #[v, b] t (0, 0)) := by
  simp [World.setCell, h, Array.getElem?_modify]
theorem set1 {u v b : Value} {t : TypeId} (h : w.heap[g]? = some (.cells #[u, b] t (0, 0))) : (w.setCell ⟨g, 1, none⟩ v).heap[g]? = some (.cells #[u, v] t (0, 0)) := by
  simp [World.setCell, h, Array.getElem?_modify]
theorem set_otherW (w : World) (g j k : Nat) (v : Value) (h : k ≠ g) : (w.setCell ⟨g, j, none⟩ v).heap[k]? = w.heap[k]? := Go.Deep.blk_setCell_other w ⟨g, j, none⟩ _ k h
theorem set_sizeW (w : World) (p : Addr) (v : Value) : (w.setCell p v).heap.size = w.heap.size := by simp [World.setCell]
theorem frozen_of_box {cs : Array Value} {t : TypeId} (h : w.heap[g]? = some (.cells cs t (0, 0))) (k : Nat) : w.frozen? ⟨g, k, none⟩ = false := by simp [World.frozen?, h]
/-- a call on the writer at g: g and its row's block alone may have been written -/
structure Kp (w w' : World) (g : Nat) (ao bo : Option Addr) : Prop where
  os : w'.os = w.os
  tape : w'.tape = w.tape
  output : w'.output = w.output
  size : w.heap.size ≤ w'.heap.size
  block : ∀ k, k < w.heap.size → k ≠ g → some k ≠ blk ao → w'.heap[k]? = w.heap[k]?
  lies : blk bo = none ∨ blk bo = blk ao ∨ ∃ k, blk bo = some k ∧ w.heap.size ≤ k
theorem Ap.block' {ao bo : Option Addr} (h : Ap w w' ao bo) {n cap : Nat} {Z : List Int} {sp : Bool} (W : Wr w g ao n cap Z sp) : w'.heap[g]? = w.heap[g]? :=
  h.grown.block g (Array.getElem?_eq_some_iff.1 W.box).1 (fun e => W.ne g e.symm rfl)
theorem Wr.lt {ao : Option Addr} {n cap : Nat} {Z : List Int} {sp : Bool} (W : Wr w g ao n cap Z sp) : g < w.heap.size := (Array.getElem?_eq_some_iff.1 W.box).1
/-- the row has grown and is held -/
theorem Wr.held {ao bo : Option Addr} {n cap m cc : Nat} {Z Y : List Int} (W : Wr w g ao n cap Z false) (h : Ap w w' ao bo) (B : BR w' bo m cc Y) :
    Wr (w'.setCell ⟨g, 0, none⟩ (.slice bo m cc)) g bo m cc Y false ∧ Kp w (w'.setCell ⟨g, 0, none⟩ (.slice bo m cc)) g ao bo := by
  have hg := W.lt
  have hne : ∀ k, blk bo = some k → k ≠ g := fun k hk => by
    rcases h.lies with e | ⟨j, e, hj⟩
    · exact W.ne k (e ▸ hk)
    · rw [e] at hk
      have := Option.some.inj hk
      omega
  refine ⟨⟨set0 ((h.block' W).trans W.box), B.keep fun k hk => set_otherW w' g 0 k _ (hne k hk), hne, fun e => by cases e⟩, ⟨h.grown.os, h.grown.tape, h.grown.output, by rw [set_sizeW]; exact h.grown.size, fun k hk h1 h2 => (set_otherW w' g 0 k _ h1).trans (h.grown.block k hk h2), Or.inr h.lies⟩⟩
/-- the row has grown and is not held, for the writer is spoilt -/
theorem Wr.lost {ao bo : Option Addr} {n cap : Nat} {Z : List Int} (W : Wr w g ao n cap Z true) (h : Ap w w' ao bo) (hao : ao = none) : Wr w' g ao n cap Z true ∧ Kp w w' g ao ao := by
  subst hao
  refine ⟨⟨(h.block' W).trans W.box, W.row.keep (fun k hk => by cases hk), W.ne, W.nil⟩, ⟨h.grown.os, h.grown.tape, h.grown.output, h.grown.size, fun k hk h1 h2 => h.grown.block k hk h2, Or.inr (Or.inl rfl)⟩⟩
theorem hold_ok (w : World) (g : Nat) (u : Value) (bo : Option Addr) (m cc : Nat) (h : w.heap[g]? = some (.cells #[u, .bool false] 152 (0, 0))) :
    Calls Try.prog 110 #[ptr g, .slice bo m cc] w fun r w' => r = .returned (.tuple #[]) ∧ w' = w.setCell ⟨g, 0, none⟩ (.slice bo m cc) := by
  have x1 := cell_of_box h 1
  have x0 := cell_of_box h 0
  have f0 := frozen_of_box h 0
  simp at x0 x1
  go_enter Try.func110, Try.ntmps110
  go_wp2_with fail
  go_end0
  exact ⟨rfl, rfl⟩
theorem hold_sp (w : World) (g : Nat) (u : Value) (bo : Option Addr) (m cc : Nat) (h : w.heap[g]? = some (.cells #[u, .bool true] 152 (0, 0))) :
    Calls Try.prog 110 #[ptr g, .slice bo m cc] w fun r w' => r = .returned (.tuple #[]) ∧ w' = w := by
  have x1 := cell_of_box h 1
  simp at x1
  go_enter Try.func110, Try.ntmps110
  go_wp2_with fail
  go_end0
  exact ⟨rfl, rfl⟩
/-- what a put of these bytes leaves -/
def Puts (w w' : World) (g : Nat) (ao : Option Addr) (Z Y : List Int) (sp : Bool) : Prop :=
  ∃ bo m cc, Wr w' g bo m cc (if sp then [] else Z ++ Y) sp ∧ (sp = true → bo = none) ∧ Kp w w' g ao bo
theorem hold_any {ao bo : Option Addr} {n cap m cc : Nat} {Z Y : List Int} {sp : Bool} (W : Wr w g ao n cap Z sp) (hao : sp = true → ao = none) (h : Ap w w' ao bo) (B : BR w' bo m cc (Z ++ Y)) :
    Calls Try.prog 110 #[ptr g, .slice bo m cc] w' fun r w2 => r = .returned (.tuple #[]) ∧ Puts w w2 g ao Z Y sp := by
  cases sp with
  | true =>
    refine (hold_sp w' g _ bo m cc ((h.block' W).trans W.box)).mono ?_
    rintro r w2 ⟨rfl, rfl⟩
    have k := W.lost h (hao rfl)
    have e : Z = [] := W.nil rfl
    subst e
    exact ⟨rfl, ao, n, cap, k.1, hao, k.2⟩
  | false =>
    refine (hold_ok w' g _ bo m cc ((h.block' W).trans W.box)).mono ?_
    rintro r w2 ⟨rfl, rfl⟩
    have k := W.held h B
    exact ⟨rfl, bo, m, cc, k.1, (fun e => by cases e), k.2⟩
theorem Wr.c0 {ao : Option Addr} {n cap : Nat} {Z : List Int} {sp : Bool} (W : Wr w g ao n cap Z sp) : w.cell? ⟨g, 0, none⟩ = some (.slice ao n cap) := by rw [cell_of_box W.box]; rfl
theorem Wr.c1 {ao : Option Addr} {n cap : Nat} {Z : List Int} {sp : Bool} (W : Wr w g ao n cap Z sp) : w.cell? ⟨g, 1, none⟩ = some (.bool sp) := by rw [cell_of_box W.box]; rfl
/-- Num, of a number that is not below 0 -/
theorem wnum_any (ao : Option Addr) (n cap : Nat) (Z : List Int) (sp : Bool) (x : Nat) (w : World) (W : Wr w g ao n cap Z sp) (hao : sp = true → ao = none) (hx : x ≤ 9223372036854775807) (hn : n ≤ 140737488355000) :
    Calls Try.prog 99 #[ptr g, .int .i64 (x : Int)] w fun r w' => r = .returned (.tuple #[]) ∧ Puts w w' g ao Z (numB x) sp := by
  have HW := hide W
  have x0 := W.c0
  have HA := hide hao
  have HN := hide (And.intro hx hn)
  have hlt : ¬ ((x : Int) < 0) := by omega
  clear W hao hx hn
  go_enter Try.func99, Try.ntmps99
  go_wp2_with fail
  refine (appendNum_any ao n cap Z x w HW.out.row HN.out.1 HN.out.2).mono ?_
  rintro r w2 ⟨bo, cc, rfl, B2, A2⟩
  have HB := hide B2
  have HP := hide A2
  clear B2 A2 x0
  go_wp2_with fail
  refine (hold_any HW.out HA.out HP.out HB.out).mono ?_
  rintro r w3 ⟨rfl, P3⟩
  have HF := hide P3
  clear P3
  go_wp2_with fail
  go_end0
  exact ⟨rfl, HF.out⟩
theorem BS.ap0 {so ao bo : Option Addr} {m c : Nat} {Y : List Int} (S : BS w so m c Y) (h : Ap w w' ao bo) (hne : m ≠ 0 → ∀ k, blk so = some k → blk ao ≠ some k) : BS w' so m c Y := by
  by_cases h0 : m = 0
  · exact ⟨S.len, S.nil, fun ad ha t ht => by omega⟩
  · exact S.ap h (hne h0)
theorem BS.lt {so : Option Addr} {m c : Nat} {Y : List Int} (S : BS w so m c Y) (h0 : m ≠ 0) (k : Nat) (e : blk so = some k) : k < w.heap.size := by
  cases so with
  | none => cases e
  | some ad =>
    have := World.block_lt_of_cell? _ _ (S.cell ad rfl 0 (by omega))
    rw [block_of_add] at this
    have : ad.block = k := Option.some.inj e
    omega
set_option maxRecDepth 100000 in
theorem frameB_any (ao : Option Addr) (n c : Nat) (Z : List Int) (so : Option Addr) (m d : Nat) (Y : List Int) (w : World) (S : BR w ao n c Z) (B : BS w so m d Y) (hne : m ≠ 0 → ∀ k, blk so = some k → blk ao ≠ some k) (hn : n + m ≤ 140737488355000) :
    Calls Try.prog 77 #[.slice ao n c, .slice so m d] w fun r w' => ∃ bo l cc, r = .returned (.slice bo l cc) ∧ BR w' bo l cc (Z ++ (numB m ++ Y)) ∧ Ap w w' ao bo := by
  have HS := hide S
  have HN := hide hn
  have HY := hide B
  have HE := hide hne
  clear S hn B hne
  go_enter Try.func77, Try.ntmps77
  go_wp2_with fail
  refine (appendNum_any ao n c Z m w HS.out (by have := HN.out; omega) (by have := HN.out; omega)).mono ?_
  rintro r w2 ⟨bo, cc, rfl, B2, A2⟩
  have HL : Hid (n + (numB m).length + m ≤ 140737488355328) := by show _ ≤ _; have := HN.out; have := numB_nine (n := m) (by omega); omega
  have HB := hide B2
  have HA := hide A2
  have HY2 := hide (HY.out.ap0 A2 HE.out)
  clear B2 A2
  go_wp2_with (at_builtin; refine HB.out.appB HY2.out HL.out rfl (.tmp 8) (.tmp 9) rfl rfl rfl ?_; intro b5 c5 w5 S5 A5; have HS5 := hide S5; have HA5 := hide (HA.out.trans A5); clear S5 A5)
  go_ret
  refine ⟨b5, _, c5, rfl, ?_, HA5.out⟩
  rw [← List.append_assoc]
  exact HS5.out
theorem new_any (w : World) : Calls Try.prog 97 #[] w fun r w' => r = .returned (ptr w.heap.size) ∧ w' = w.alloc (.cells #[.slice none 0 0, .bool false] 152) := by
  go_enter Try.func97, Try.ntmps97
  go_wp2_with fail
  go_ret
  exact ⟨rfl, rfl⟩
theorem wr_new (w : World) : Wr (w.alloc (.cells #[.slice none 0 0, .bool false] 152)) w.heap.size none 0 0 [] false :=
  ⟨heap_alloc_new w _, BR.nil _, (fun k hk => by cases hk), fun h => by cases h⟩
theorem done_ok (ao : Option Addr) (n cap : Nat) (Z : List Int) (w : World) (W : Wr w g ao n cap Z false) (hn : n ≤ 140737488355000) :
    Calls Try.prog 98 #[ptr g] w fun r w' => ∃ bo cc, r = .returned (.tuple #[.slice bo n cc, .int .i64 0]) ∧ BR w' bo n cc Z ∧ NewB w w' bo := by
  have HW := hide W
  have x0 := W.c0
  have x1 := W.c1
  have HN := hide hn
  clear W hn
  go_enter Try.func98, Try.ntmps98
  go_wp2_with fail
  refine (clone_any ao n cap Z w HW.out.row.bs (Nat.le_trans HN.out (by decide))).mono ?_
  rintro r w2 ⟨bo, cc, rfl, B2, N2⟩
  have HB := hide B2
  have HF := hide N2
  clear B2 N2
  go_wp2_with fail
  go_ret2
  exact ⟨_, _, rfl, HB.out, HF.out⟩
/-- a writer that the call made: all of it lies at w0's end or behind -/
structure Wk (w0 wr : World) (g : Nat) (ao : Option Addr) (n cap : Nat) (Z : List Int) : Prop where
  w : Wr wr g ao n cap Z false
  bel : Below w0.heap.size w0 wr
  ge : w0.heap.size ≤ g
  row : ∀ k, blk ao = some k → w0.heap.size ≤ k
theorem wk_new (w0 : World) : Wk w0 (w0.alloc (.cells #[.slice none 0 0, .bool false] 152)) w0.heap.size none 0 0 [] :=
  ⟨wr_new w0, below_new _ _, Nat.le_refl _, fun k e => by cases e⟩
theorem Wk.len {w0 : World} {ao : Option Addr} {n cap : Nat} {Z : List Int} (h : Wk w0 w g ao n cap Z) : Z.length = n := h.w.row.len
theorem Wk.below {w0 : World} {ao : Option Addr} {n cap : Nat} {Z : List Int} (h : Wk w0 w g ao n cap Z) (b : Below w.heap.size w w') : Wk w0 w' g ao n cap Z :=
  ⟨⟨(b.block g h.w.lt).trans h.w.box, h.w.row.below b, h.w.ne, h.w.nil⟩, h.bel.trans (b.mono h.bel.size), h.ge, h.row⟩
theorem Wk.put {w0 : World} {ao : Option Addr} {n cap : Nat} {Z Y : List Int} (h : Wk w0 w g ao n cap Z) (P : Puts w w' g ao Z Y false) : ∃ bo m cc, Wk w0 w' g bo m cc (Z ++ Y) := by
  obtain ⟨bo, m, cc, W, -, K⟩ := P
  refine ⟨bo, m, cc, by simpa using W, ⟨K.os.trans h.bel.os, K.tape.trans h.bel.tape, K.output.trans h.bel.output, Nat.le_trans h.bel.size K.size, fun k hk => (K.block k (Nat.lt_of_lt_of_le hk h.bel.size) (fun e => by have := h.ge; omega) (fun e => by have := h.row k e.symm; omega)).trans (h.bel.block k hk)⟩, h.ge, fun k e => ?_⟩
  rcases K.lies with x | x | ⟨j, x, hj⟩
  · rw [x] at e; cases e
  · exact h.row k (x ▸ e)
  · rw [x] at e
    have := Option.some.inj e
    have := h.bel.size
    omega
end Go.Proofs.Ytbmjiedpaffifaa.U
