/- ISt ISp IGt -/
import Derived.Test.YtphohmoibnoeaaaGreatTk
import Derived.Test.YtphohmoibnoeaaaGreatPr01
import Derived.Test.YtphohmoibnoeaaaGreatPb32
import Derived.Deep.CutBlock
import Derived.Deep.DeepCutAuto
namespace Go.Proofs.YtphohmoibnoeaaaGreat
open Go.RowKit
variable {w w' w2 W W' W2 w0 : World} {g b3 : Nat} {q : Sq} {st : Option (List Int)}

theorem pTx_eq (most : Int) (R : List Int) : pTx most R = match U.pNum most R with | none => none | some (v, R1) => if v ≤ R1.length then some (strOfNums (R1.take v), R1.drop v) else none := by
 unfold pTx U.pcE U.pNum
 by_cases h : U.nmE R most = 0
 ·obtain ⟨-, -, h3, -⟩ := U.nm_ok h
  rw [if_neg (show ¬ U.nmE R most ≠ 0 by simpa using h), if_pos h]
  simp only [List.length_drop, List.drop_drop]
  by_cases h4 : R.length < U.nmK R + U.nmV R
  ·rw [if_pos h4, if_neg (by decide), if_neg (by omega)]
  ·rw [if_neg h4, if_pos rfl, if_pos (by omega)]
 ·rw [if_pos h, if_neg h, if_neg h]
def sTx (most : Int) : Option (List Int) → ByteArray × Option (List Int)
 | none => (⟨#[]⟩, none)
 | some R => match pTx most R with
  | none => (⟨#[]⟩, none)
  | some (s, R') => (s, some R')
theorem sTx_bad {most : Int} {R : List Int} (h : pTx most R = none) : sTx most (some R) = (⟨#[]⟩, none) := by simp [sTx, h]
theorem sTx_ok {most : Int} {R R' : List Int} {s : ByteArray} (h : pTx most R = some (s, R')) : sTx most (some R) = (s, some R') := by simp [sTx, h]
theorem sTx_none {most : Int} {v : Nat} (h : sNum most st = (v, none)) : sTx most st = (⟨#[]⟩, none) := by
 cases st with
 | none => rfl
 | some R =>
  cases hp : U.pNum most R with
  | none => exact sTx_bad (by rw [pTx_eq, hp])
  | some y =>
   obtain ⟨v', R'⟩ := y
   rw [sNum_ok hp] at h
   cases h
theorem sNum_some {most : Int} {v : Nat} {R1 : List Int} (h : sNum most st = (v, some R1)) : ∃ R, st = some R ∧ U.pNum most R = some (v, R1) := by
 cases st with
 | none => cases h
 | some R =>
  cases hp : U.pNum most R with
  | none => rw [sNum_bad hp] at h; cases h
  | some y =>
   obtain ⟨v', R'⟩ := y
   rw [sNum_ok hp] at h
   simp only [Prod.mk.injEq, Option.some.injEq] at h
   obtain ⟨rfl, rfl⟩ := h
   exact ⟨R, rfl, hp⟩
def TxS (w w' : World) (e : Ending) (g : Nat) (q : Sq) (x : ByteArray × Option (List Int)) : Prop := e = .returned (.string x.1) ∧ SB w' g q x.2 ∧ U.Kg w w' g
theorem Sg.pre {a : Nat} {b : Bool} (k : U.Kg w W g) (h : Sg W W' g q a b) : Sg w W' g q a b := ⟨h.box, h.src, k.trans h.kg, h.ne, h.cap, h.le⟩
theorem src_piece {ad : Addr} {n cap : Nat} {Z : List Int} (S : U.Src w (some ad) n cap Z) (a v : Nat) (hv : a + v ≤ n) (hc : n ≤ cap) (c' : Nat) : U.BS w (if cap = a then some ad else some (ad.add a)) v c' ((Z.drop a).take v) := by
 refine ⟨by rw [List.length_take, List.length_drop, S.1]; omega, fun h => ?_, fun ad' h t ht => ?_⟩
 ·split at h <;> cases h
 ·rw [if_neg (by omega)] at h
  obtain rfl := Option.some.inj h
  have := S.2.2.1 ad rfl (a + t) (by omega)
  rw [add_add, this]
  congr 2
  rw [List.getD_eq_getElem?_getD, List.getD_eq_getElem?_getD, List.getElem?_take, if_pos ht, List.getElem?_drop]
set_option maxRecDepth 100000 in
set_option maxHeartbeats 6400000 in
theorem stext_any (hS : SB W g q st) (most : Int) (hm : most < 4398046511104) (hq : q.n ≤ 4611686018427387904) : Calls Tryz.prog 73 #[U.ptr g, .int .i64 most] W fun e w' => TxS W w' e g q (sTx most st) := by
 have HC := hide (snum_any hS most hm hq)
 have HQ := hide hq
 clear hS hm hq
 go_enter Tryz.func73, Tryz.ntmps73
 go_wp2_with fail
 refine HC.out.mono ?_
 rintro e w2 ⟨rfl, hB2, k2⟩
 obtain ⟨v, st2, hsn⟩ : ∃ v st2, sNum most st = (v, st2) := ⟨_, _, rfl⟩
 rw [hsn] at hB2 ⊢
 simp only at hB2 ⊢
 obtain ⟨a, b, hG0, hI⟩ := hB2.sg
 have hG := Sg.pre k2 hG0
 have HG := hide hG
 have Hsn := hide hsn
 obtain ⟨c0, c1, c2, fz⟩ := sc_cells hG.box
 clear hB2 k2 hG0 hsn HC
 cases st2 with
 | none =>
  obtain rfl : b = true := hI
  have HF : Hid (∀ V : World, Sg W V g q a true → TxS W V (.returned (.string ⟨#[]⟩)) g q (sTx most st)) := fun V hV => by
   rw [sTx_none Hsn.out]
   exact ⟨rfl, hV.bad⟩
  clear hG
  go_upto_region 2 with fail
  refine wp_region_held_drew (S := fun v => v.cell? ⟨g, 0, none⟩ = some (.slice q.o q.n q.c) ∧ v.cell? ⟨g, 1, none⟩ = some (.int .i64 (a : Int)) ∧ v.cell? ⟨g, 2, none⟩ = some (.bool true)) (by kernel_rfl) (⟨c0, c1, c2⟩) (fun hHeld => ?_)
  refine wTk 0 ⟨some 10, .move (.tmp 0), 137, "ref.go:143", #[], none⟩ rfl ?_
  refine wTk 1 ⟨some 11, .nilCheck (.tmp 10), 0, "ref.go:143", #[⟨0, .data⟩], none⟩ rfl ?_
  refine wTk 2 ⟨some 12, .fieldAddr 113 (.tmp 11) 2, 0, "ref.go:143", #[⟨1, .data⟩], none⟩ rfl ?_
  refine wTk 3 ⟨some 13, .load 4 (.tmp 12), 4, "ref.go:143", #[⟨2, .data⟩], none⟩ rfl ?_
  refine wTk 4 ⟨some 14, .move (.tmp 13), 4, "ref.go:143", #[⟨3, .data⟩], none⟩ rfl ?_
  refine wSk 5 ⟨some 15, .move (.tmp 5), 3, "ref.go:143", #[⟨4, .guard⟩], some (4, false)⟩ rfl ?_
  refine wSk 6 ⟨some 16, .move (.tmp 0), 137, "ref.go:143", #[⟨4, .guard⟩], some (4, false)⟩ rfl ?_
  refine wSk 7 ⟨some 17, .nilCheck (.tmp 16), 0, "ref.go:143", #[⟨6, .data⟩, ⟨4, .guard⟩], some (4, false)⟩ rfl ?_
  refine wSk 8 ⟨some 18, .fieldAddr 113 (.tmp 17) 0, 0, "ref.go:143", #[⟨7, .data⟩, ⟨4, .guard⟩], some (4, false)⟩ rfl ?_
  refine wSk 9 ⟨some 19, .load 28 (.tmp 18), 28, "ref.go:143", #[⟨8, .data⟩, ⟨4, .guard⟩], some (4, false)⟩ rfl ?_
  refine wSk 10 ⟨some 20, .call ⟨.builtin .len, #[.tmp 19], #[28]⟩, 3, "ref.go:143", #[⟨9, .data⟩, ⟨4, .guard⟩], some (4, false)⟩ rfl ?_
  refine wSk 11 ⟨some 21, .move (.tmp 0), 137, "ref.go:143", #[⟨4, .guard⟩], some (4, false)⟩ rfl ?_
  refine wSk 12 ⟨some 22, .nilCheck (.tmp 21), 0, "ref.go:143", #[⟨11, .data⟩, ⟨4, .guard⟩], some (4, false)⟩ rfl ?_
  refine wSk 13 ⟨some 23, .fieldAddr 113 (.tmp 22) 1, 0, "ref.go:143", #[⟨12, .data⟩, ⟨4, .guard⟩], some (4, false)⟩ rfl ?_
  refine wSk 14 ⟨some 24, .load 3 (.tmp 23), 3, "ref.go:143", #[⟨13, .data⟩, ⟨4, .guard⟩], some (4, false)⟩ rfl ?_
  refine wSk 15 ⟨some 25, .binOp .sub 3 (.tmp 20) (.tmp 24) 3, 3, "ref.go:143", #[⟨10, .data⟩, ⟨14, .data⟩, ⟨4, .guard⟩], some (4, false)⟩ rfl ?_
  refine wSk 16 ⟨some 26, .binOp .gtr 3 (.tmp 15) (.tmp 25) 3, 4, "ref.go:143", #[⟨5, .data⟩, ⟨15, .data⟩, ⟨4, .guard⟩], some (4, false)⟩ rfl ?_
  refine wTk 17 ⟨some 27, .pick (.tmp 14) (.const (.bool true)) (.tmp 26), 4, "ref.go:143", #[⟨4, .data⟩, ⟨16, .data⟩], none⟩ rfl ?_
  refine wpAnyH_done (by kernel_rfl) ?_ _
  clear hHeld
  have HG5 := hide (HG.out.below (below_drew1 w2))
  clear c0 c1 c2 fz
  generalize w2.drew = wh at HG5 ⊢
  obtain ⟨c0, c1, c2, fz⟩ := sc_cells HG5.out.box
  go_wp2_with fail
  go_ret
  exact HF.out _ HG5.out.setB
 | some R1 =>
  obtain ⟨rfl, hR⟩ := hI
  subst hR
  obtain ⟨R, hst, hpn⟩ := sNum_some Hsn.out
  subst hst
  have hle := hG.le
  have hlen : (q.Z.drop a).length = q.n - a := by rw [List.length_drop, hG.src.1]
  obtain ⟨ln, hln⟩ : ∃ ln, q.n - a = ln := ⟨_, rfl⟩
  have hwA : IntKind.i64.wrap ((q.n : Int) - (a : Int)) = (ln : Int) := by have := HQ.out; rw [IntKind.wrap_i64]; omega
  have HT := pTx_eq most R
  rw [hpn] at HT
  simp only at HT
  rw [hlen, hln] at HT
  by_cases hv : v ≤ ln
  ·rw [if_pos hv] at HT
   have HT2 := hide HT
   have hvi : ¬ (ln : Int) < (v : Int) := by omega
   have hvd : decide ((ln : Int) < (v : Int)) = false := by rw [decide_eq_false_iff_not]; omega
   have hvn : ¬ ln < v := by omega
   obtain ⟨hi, hhi⟩ : ∃ hi, a + v = hi := ⟨_, rfl⟩
   have hwB : IntKind.i64.wrap ((a : Int) + (v : Int)) = (hi : Int) := by have := HQ.out; rw [IntKind.wrap_i64]; omega
   have hwC : wrap64 ((a : Int) + (v : Int)) = (hi : Int) := by have := HQ.out; rw [U.w64 (by omega) (by omega)]; omega
   have Hhi : Hid (hi = a + v ∧ hi ≤ q.n) := ⟨hhi.symm, by omega⟩
   have HF : Hid (∀ V : World, Sg W V g q hi false → TxS W V (.returned (.string (strOfNums ((q.Z.drop a).take v)))) g q (sTx most (some R))) := fun V hV => by
    rw [sTx_ok HT2.out, List.drop_drop, ← Hhi.out.1]
    exact ⟨rfl, hV.good⟩
   clear HT hpn hlen hG
   go_upto_region 2 with fail
   refine wp_region_held_drew (S := fun v => v.cell? ⟨g, 0, none⟩ = some (.slice q.o q.n q.c) ∧ v.cell? ⟨g, 1, none⟩ = some (.int .i64 (a : Int)) ∧ v.cell? ⟨g, 2, none⟩ = some (.bool false)) (by kernel_rfl) (⟨c0, c1, c2⟩) (fun hHeld => ?_)
   refine wTk 0 ⟨some 10, .move (.tmp 0), 137, "ref.go:143", #[], none⟩ rfl ?_
   refine wTk 1 ⟨some 11, .nilCheck (.tmp 10), 0, "ref.go:143", #[⟨0, .data⟩], none⟩ rfl ?_
   refine wTk 2 ⟨some 12, .fieldAddr 113 (.tmp 11) 2, 0, "ref.go:143", #[⟨1, .data⟩], none⟩ rfl ?_
   refine wTk 3 ⟨some 13, .load 4 (.tmp 12), 4, "ref.go:143", #[⟨2, .data⟩], none⟩ rfl ?_
   refine wTk 4 ⟨some 14, .move (.tmp 13), 4, "ref.go:143", #[⟨3, .data⟩], none⟩ rfl ?_
   refine wTk 5 ⟨some 15, .move (.tmp 5), 3, "ref.go:143", #[⟨4, .guard⟩], some (4, false)⟩ rfl ?_
   refine wTk 6 ⟨some 16, .move (.tmp 0), 137, "ref.go:143", #[⟨4, .guard⟩], some (4, false)⟩ rfl ?_
   refine wTk 7 ⟨some 17, .nilCheck (.tmp 16), 0, "ref.go:143", #[⟨6, .data⟩, ⟨4, .guard⟩], some (4, false)⟩ rfl ?_
   refine wTk 8 ⟨some 18, .fieldAddr 113 (.tmp 17) 0, 0, "ref.go:143", #[⟨7, .data⟩, ⟨4, .guard⟩], some (4, false)⟩ rfl ?_
   refine wTk 9 ⟨some 19, .load 28 (.tmp 18), 28, "ref.go:143", #[⟨8, .data⟩, ⟨4, .guard⟩], some (4, false)⟩ rfl ?_
   refine wTk 10 ⟨some 20, .call ⟨.builtin .len, #[.tmp 19], #[28]⟩, 3, "ref.go:143", #[⟨9, .data⟩, ⟨4, .guard⟩], some (4, false)⟩ rfl ?_
   refine wTk 11 ⟨some 21, .move (.tmp 0), 137, "ref.go:143", #[⟨4, .guard⟩], some (4, false)⟩ rfl ?_
   refine wTk 12 ⟨some 22, .nilCheck (.tmp 21), 0, "ref.go:143", #[⟨11, .data⟩, ⟨4, .guard⟩], some (4, false)⟩ rfl ?_
   refine wTk 13 ⟨some 23, .fieldAddr 113 (.tmp 22) 1, 0, "ref.go:143", #[⟨12, .data⟩, ⟨4, .guard⟩], some (4, false)⟩ rfl ?_
   refine wTk 14 ⟨some 24, .load 3 (.tmp 23), 3, "ref.go:143", #[⟨13, .data⟩, ⟨4, .guard⟩], some (4, false)⟩ rfl ?_
   refine wTk 15 ⟨some 25, .binOp .sub 3 (.tmp 20) (.tmp 24) 3, 3, "ref.go:143", #[⟨10, .data⟩, ⟨14, .data⟩, ⟨4, .guard⟩], some (4, false)⟩ rfl ?_
   refine wTk 16 ⟨some 26, .binOp .gtr 3 (.tmp 15) (.tmp 25) 3, 4, "ref.go:143", #[⟨5, .data⟩, ⟨15, .data⟩, ⟨4, .guard⟩], some (4, false)⟩ rfl ?_
   refine wTk 17 ⟨some 27, .pick (.tmp 14) (.const (.bool true)) (.tmp 26), 4, "ref.go:143", #[⟨4, .data⟩, ⟨16, .data⟩], none⟩ rfl ?_
   refine wpAnyH_done (by kernel_rfl) ?_ _
   clear hHeld
   have HG5 := hide (HG.out.below (below_drew1 w2))
   clear c0 c1 c2 fz
   generalize w2.drew = wh at HG5 ⊢
   obtain ⟨c0, c1, c2, fz⟩ := sc_cells HG5.out.box
   go_upto_region 5 with fail
   obtain ⟨qo, qn, qc, qZ⟩ := q
   cases qo with
   | none =>
    have hs := HG5.out.src.2.1 rfl
    have hs1 := hs.1
    have hs2 := hs.2
    simp only at hs1 hs2
    subst hs1 hs2
    obtain rfl : a = 0 := by simpa using hle
    obtain rfl : v = 0 := by omega
    obtain rfl : hi = 0 := hhi.symm
    have hl0 : ln = 0 := by simpa using hln.symm
    subst hl0
    have hz0 : IntKind.i64.wrap 0 = 0 := by decide
    have hcv : ∀ V : World, (convert 28 9 (.slice none 0 0)).run Tryz.prog V = .ok (.string (strOfNums ((qZ.drop 0).take 0))) V := fun V => by
     have := (U.BS.nil_ V).str
     simpa using this
    clear hs
    refine wp_region_held_drew (S := fun v => v.cell? ⟨g, 0, none⟩ = some (.slice none 0 0) ∧ v.cell? ⟨g, 1, none⟩ = some (.int .i64 ((0 : Nat) : Int))) (by kernel_rfl) (⟨c0, c1⟩) (fun hHeld => ?_)
    refine wTk 0 ⟨some 31, .move (.tmp 0), 137, "ref.go:147", #[], none⟩ rfl ?_
    refine wTk 1 ⟨some 32, .nilCheck (.tmp 31), 0, "ref.go:147", #[⟨0, .data⟩], none⟩ rfl ?_
    refine wTk 2 ⟨some 33, .fieldAddr 113 (.tmp 32) 0, 0, "ref.go:147", #[⟨1, .data⟩], none⟩ rfl ?_
    refine wTk 3 ⟨some 34, .load 28 (.tmp 33), 28, "ref.go:147", #[⟨2, .data⟩], none⟩ rfl ?_
    refine wTk 4 ⟨some 35, .move (.tmp 0), 137, "ref.go:147", #[], none⟩ rfl ?_
    refine wTk 5 ⟨some 36, .nilCheck (.tmp 35), 0, "ref.go:147", #[⟨4, .data⟩], none⟩ rfl ?_
    refine wTk 6 ⟨some 37, .fieldAddr 113 (.tmp 36) 1, 0, "ref.go:147", #[⟨5, .data⟩], none⟩ rfl ?_
    refine wTk 7 ⟨some 38, .load 3 (.tmp 37), 3, "ref.go:147", #[⟨6, .data⟩], none⟩ rfl ?_
    refine wTk 8 ⟨some 39, .move (.tmp 0), 137, "ref.go:147", #[], none⟩ rfl ?_
    refine wTk 9 ⟨some 40, .nilCheck (.tmp 39), 0, "ref.go:147", #[⟨8, .data⟩], none⟩ rfl ?_
    refine wTk 10 ⟨some 41, .fieldAddr 113 (.tmp 40) 1, 0, "ref.go:147", #[⟨9, .data⟩], none⟩ rfl ?_
    refine wTk 11 ⟨some 42, .load 3 (.tmp 41), 3, "ref.go:147", #[⟨10, .data⟩], none⟩ rfl ?_
    refine wTk 12 ⟨some 43, .move (.tmp 5), 3, "ref.go:147", #[], none⟩ rfl ?_
    refine wTk 13 ⟨some 44, .binOp .add 3 (.tmp 42) (.tmp 43) 3, 3, "ref.go:147", #[⟨11, .data⟩, ⟨12, .data⟩], none⟩ rfl ?_
    refine wpAnyH_take (i := 14) (oi := ⟨some 45, .slice 28 (.tmp 34) (some (.tmp 38)) (some (.tmp 44)) none, 28, "ref.go:147", #[⟨3, .data⟩, ⟨7, .data⟩, ⟨13, .data⟩], none⟩) (v := .slice none 0 0) rfl (by kernel_rfl) (by kernel_rfl) (by kernel_rfl) (fun _ _ _ h => h) (Or.inl ⟨by rfl, ?_⟩) (by assumption) ?_
    skip
    ·(intro w hSw; (try dsimp only at hSw); go_simp); first | done | with_reducible rfl
    simp only [Act.put, List.setIfInBounds_toArray, List.set_cons_zero, List.set_cons_succ]
    refine wpAnyH_take (i := 15) (oi := ⟨some 46, .convert 28 9 (.tmp 45), 9, "ref.go:147", #[⟨14, .data⟩], none⟩) (v := ?_) rfl (by kernel_rfl) (by kernel_rfl) (by kernel_rfl) (fun _ _ _ h => h) (Or.inl ⟨by rfl, ?_⟩) (by assumption) ?_
    rotate_left
    ·(intro w hSw; (try dsimp only at hSw); go_simp; (try rw [hcv])); first | done | with_reducible rfl
    simp only [Act.put, List.setIfInBounds_toArray, List.set_cons_zero, List.set_cons_succ]
    refine wTk 16 ⟨some 6, .assign (.tmp 46), 9, "ref.go:147", #[⟨15, .data⟩, ⟨0, .phase⟩, ⟨1, .phase⟩, ⟨2, .phase⟩, ⟨3, .phase⟩, ⟨4, .phase⟩, ⟨5, .phase⟩, ⟨6, .phase⟩, ⟨7, .phase⟩, ⟨8, .phase⟩, ⟨9, .phase⟩, ⟨10, .phase⟩, ⟨11, .phase⟩, ⟨12, .phase⟩, ⟨13, .phase⟩, ⟨14, .phase⟩, ⟨15, .phase⟩], none⟩ rfl ?_
    refine wpAnyH_done (by kernel_rfl) ?_ _
    clear hHeld
    have HG6 := hide (HG5.out.below (below_drew1 wh))
    clear c0 c1 c2 fz
    generalize wh.drew = wi at HG6 ⊢
    obtain ⟨c0, c1, c2, fz⟩ := sc_cells HG6.out.box
    go_wp2_with fail
    go_ret
    exact HF.out _ (HG6.out.setA (a' := 0) (Nat.zero_le _))
   | some ad =>
    have hcv : ∀ V : World, U.Src V (some ad) qn qc qZ → (convert 28 9 (.slice (if qc = a then some ad else some (ad.add a)) v (qc - a))).run Tryz.prog V = .ok (.string (strOfNums ((qZ.drop a).take v))) V := fun V hV => (src_piece hV a v (by have := Hhi.out; simp only at this; omega) HG5.out.cap _).str
    obtain ⟨A, hA⟩ : ∃ A, (if qc = a then some ad else some (ad.add a)) = A := ⟨_, rfl⟩
    rw [hA] at hcv
    have HA := hide hA
    have hcd := hcv _ (HG5.out.below (below_drew1 wh)).src
    have HCap := hide HG5.out.cap
    have hh1 : hi - a = v := by omega
    have hh2 : a ≤ hi := by omega
    have hh3 : hi ≤ qc := by have h1 := Hhi.out.2; have h2 := HCap.out; simp only at h1 h2; omega
    clear hA hcv
    refine wp_region_held_drew (S := fun V9 => V9.cell? ⟨g, 0, none⟩ = some (.slice (some ad) qn qc) ∧ V9.cell? ⟨g, 1, none⟩ = some (.int .i64 (a : Int)) ∧ (convert 28 9 (.slice A v (qc - a))).run Tryz.prog V9 = .ok (.string (strOfNums ((qZ.drop a).take v))) V9) (by kernel_rfl) (⟨c0, c1, hcd⟩) (fun hHeld => ?_)
    refine wTk 0 ⟨some 31, .move (.tmp 0), 137, "ref.go:147", #[], none⟩ rfl ?_
    refine wTk 1 ⟨some 32, .nilCheck (.tmp 31), 0, "ref.go:147", #[⟨0, .data⟩], none⟩ rfl ?_
    refine wTk 2 ⟨some 33, .fieldAddr 113 (.tmp 32) 0, 0, "ref.go:147", #[⟨1, .data⟩], none⟩ rfl ?_
    refine wTk 3 ⟨some 34, .load 28 (.tmp 33), 28, "ref.go:147", #[⟨2, .data⟩], none⟩ rfl ?_
    refine wTk 4 ⟨some 35, .move (.tmp 0), 137, "ref.go:147", #[], none⟩ rfl ?_
    refine wTk 5 ⟨some 36, .nilCheck (.tmp 35), 0, "ref.go:147", #[⟨4, .data⟩], none⟩ rfl ?_
    refine wTk 6 ⟨some 37, .fieldAddr 113 (.tmp 36) 1, 0, "ref.go:147", #[⟨5, .data⟩], none⟩ rfl ?_
    refine wTk 7 ⟨some 38, .load 3 (.tmp 37), 3, "ref.go:147", #[⟨6, .data⟩], none⟩ rfl ?_
    refine wTk 8 ⟨some 39, .move (.tmp 0), 137, "ref.go:147", #[], none⟩ rfl ?_
    refine wTk 9 ⟨some 40, .nilCheck (.tmp 39), 0, "ref.go:147", #[⟨8, .data⟩], none⟩ rfl ?_
    refine wTk 10 ⟨some 41, .fieldAddr 113 (.tmp 40) 1, 0, "ref.go:147", #[⟨9, .data⟩], none⟩ rfl ?_
    refine wTk 11 ⟨some 42, .load 3 (.tmp 41), 3, "ref.go:147", #[⟨10, .data⟩], none⟩ rfl ?_
    refine wTk 12 ⟨some 43, .move (.tmp 5), 3, "ref.go:147", #[], none⟩ rfl ?_
    refine wTk 13 ⟨some 44, .binOp .add 3 (.tmp 42) (.tmp 43) 3, 3, "ref.go:147", #[⟨11, .data⟩, ⟨12, .data⟩], none⟩ rfl ?_
    refine wpAnyH_take (i := 14) (oi := ⟨some 45, .slice 28 (.tmp 34) (some (.tmp 38)) (some (.tmp 44)) none, 28, "ref.go:147", #[⟨3, .data⟩, ⟨7, .data⟩, ⟨13, .data⟩], none⟩) (v := .slice A v (qc - a)) rfl (by kernel_rfl) (by kernel_rfl) (by kernel_rfl) (fun _ _ _ h => h) (Or.inl ⟨by rfl, ?_⟩) (by assumption) ?_
    skip
    ·(intro w hSw; (try dsimp only at hSw); go_simp; exact HA.out); first | done | with_reducible rfl
    simp only [Act.put, List.setIfInBounds_toArray, List.set_cons_zero, List.set_cons_succ]
    refine wTk 15 ⟨some 46, .convert 28 9 (.tmp 45), 9, "ref.go:147", #[⟨14, .data⟩], none⟩ rfl ?_
    refine wTk 16 ⟨some 6, .assign (.tmp 46), 9, "ref.go:147", #[⟨15, .data⟩, ⟨0, .phase⟩, ⟨1, .phase⟩, ⟨2, .phase⟩, ⟨3, .phase⟩, ⟨4, .phase⟩, ⟨5, .phase⟩, ⟨6, .phase⟩, ⟨7, .phase⟩, ⟨8, .phase⟩, ⟨9, .phase⟩, ⟨10, .phase⟩, ⟨11, .phase⟩, ⟨12, .phase⟩, ⟨13, .phase⟩, ⟨14, .phase⟩, ⟨15, .phase⟩], none⟩ rfl ?_
    refine wpAnyH_done (by kernel_rfl) ?_ _
    clear hHeld
    have HG6 := hide (HG5.out.below (below_drew1 wh))
    clear c0 c1 c2 fz hcd
    generalize wh.drew = wi at HG6 ⊢
    obtain ⟨c0, c1, c2, fz⟩ := sc_cells HG6.out.box
    go_wp2_with fail
    go_ret
    exact HF.out _ (HG6.out.setA (a' := hi) Hhi.out.2)
  ·rw [if_neg hv] at HT
   have HT2 := hide HT
   have hvi : (ln : Int) < (v : Int) := by omega
   have hvd : decide ((ln : Int) < (v : Int)) = true := by rw [decide_eq_true_iff]; omega
   have hvn : ln < v := by omega
   have HF : Hid (∀ V : World, Sg W V g q a true → TxS W V (.returned (.string ⟨#[]⟩)) g q (sTx most (some R))) := fun V hV => by
    rw [sTx_bad HT2.out]
    exact ⟨rfl, hV.bad⟩
   clear HT hpn hlen hG
   go_upto_region 2 with fail
   refine wp_region_held_drew (S := fun v => v.cell? ⟨g, 0, none⟩ = some (.slice q.o q.n q.c) ∧ v.cell? ⟨g, 1, none⟩ = some (.int .i64 (a : Int)) ∧ v.cell? ⟨g, 2, none⟩ = some (.bool false)) (by kernel_rfl) (⟨c0, c1, c2⟩) (fun hHeld => ?_)
   refine wTk 0 ⟨some 10, .move (.tmp 0), 137, "ref.go:143", #[], none⟩ rfl ?_
   refine wTk 1 ⟨some 11, .nilCheck (.tmp 10), 0, "ref.go:143", #[⟨0, .data⟩], none⟩ rfl ?_
   refine wTk 2 ⟨some 12, .fieldAddr 113 (.tmp 11) 2, 0, "ref.go:143", #[⟨1, .data⟩], none⟩ rfl ?_
   refine wTk 3 ⟨some 13, .load 4 (.tmp 12), 4, "ref.go:143", #[⟨2, .data⟩], none⟩ rfl ?_
   refine wTk 4 ⟨some 14, .move (.tmp 13), 4, "ref.go:143", #[⟨3, .data⟩], none⟩ rfl ?_
   refine wTk 5 ⟨some 15, .move (.tmp 5), 3, "ref.go:143", #[⟨4, .guard⟩], some (4, false)⟩ rfl ?_
   refine wTk 6 ⟨some 16, .move (.tmp 0), 137, "ref.go:143", #[⟨4, .guard⟩], some (4, false)⟩ rfl ?_
   refine wTk 7 ⟨some 17, .nilCheck (.tmp 16), 0, "ref.go:143", #[⟨6, .data⟩, ⟨4, .guard⟩], some (4, false)⟩ rfl ?_
   refine wTk 8 ⟨some 18, .fieldAddr 113 (.tmp 17) 0, 0, "ref.go:143", #[⟨7, .data⟩, ⟨4, .guard⟩], some (4, false)⟩ rfl ?_
   refine wTk 9 ⟨some 19, .load 28 (.tmp 18), 28, "ref.go:143", #[⟨8, .data⟩, ⟨4, .guard⟩], some (4, false)⟩ rfl ?_
   refine wTk 10 ⟨some 20, .call ⟨.builtin .len, #[.tmp 19], #[28]⟩, 3, "ref.go:143", #[⟨9, .data⟩, ⟨4, .guard⟩], some (4, false)⟩ rfl ?_
   refine wTk 11 ⟨some 21, .move (.tmp 0), 137, "ref.go:143", #[⟨4, .guard⟩], some (4, false)⟩ rfl ?_
   refine wTk 12 ⟨some 22, .nilCheck (.tmp 21), 0, "ref.go:143", #[⟨11, .data⟩, ⟨4, .guard⟩], some (4, false)⟩ rfl ?_
   refine wTk 13 ⟨some 23, .fieldAddr 113 (.tmp 22) 1, 0, "ref.go:143", #[⟨12, .data⟩, ⟨4, .guard⟩], some (4, false)⟩ rfl ?_
   refine wTk 14 ⟨some 24, .load 3 (.tmp 23), 3, "ref.go:143", #[⟨13, .data⟩, ⟨4, .guard⟩], some (4, false)⟩ rfl ?_
   refine wTk 15 ⟨some 25, .binOp .sub 3 (.tmp 20) (.tmp 24) 3, 3, "ref.go:143", #[⟨10, .data⟩, ⟨14, .data⟩, ⟨4, .guard⟩], some (4, false)⟩ rfl ?_
   refine wTk 16 ⟨some 26, .binOp .gtr 3 (.tmp 15) (.tmp 25) 3, 4, "ref.go:143", #[⟨5, .data⟩, ⟨15, .data⟩, ⟨4, .guard⟩], some (4, false)⟩ rfl ?_
   refine wTk 17 ⟨some 27, .pick (.tmp 14) (.const (.bool true)) (.tmp 26), 4, "ref.go:143", #[⟨4, .data⟩, ⟨16, .data⟩], none⟩ rfl ?_
   refine wpAnyH_done (by kernel_rfl) ?_ _
   clear hHeld
   have HG5 := hide (HG.out.below (below_drew1 w2))
   clear c0 c1 c2 fz
   generalize w2.drew = wh at HG5 ⊢
   obtain ⟨c0, c1, c2, fz⟩ := sc_cells HG5.out.box
   go_wp2_with fail
   go_ret
   exact HF.out _ HG5.out.setB
end Go.Proofs.YtphohmoibnoeaaaGreat
namespace Go.Proofs.YtphohmoibnoeaaaGreat
open Go.RowKit
attribute [local go_sem ↓] ldP_eq stP_eq
attribute [local go_sem] cells_PV PC_size
variable {w w' w2 W W' W2 w0 : World} {g b3 : Nat} {q : Sq} {st : Option (List Int)}

theorem sNum_le {most : Int} (h0 : 0 ≤ most) (st : Option (List Int)) : ((sNum most st).1 : Int) ≤ most := by
 cases st with
 | none => exact h0
 | some R =>
  cases hp : U.pNum most R with
  | none => rw [sNum_bad hp]; exact h0
  | some y =>
   obtain ⟨v, R'⟩ := y
   rw [sNum_ok hp]
   exact pNum_le hp
def VcI (big : Int) (st : Option (List Int)) (N k : Nat) (V : List Int) : Option (List Int) → Prop
 | none => ∀ R0, st = some R0 → lsPast big R0 = none
 | some R1 => ∃ R0 Z0, st = some R0 ∧ U.pNum 16 R0 = some (N, Z0) ∧ (rdVec (N - k) R1).map (fun x => (V ++ x.1, x.2)) = rdVec N Z0
theorem vc_start {big : Int} {N : Nat} {st1 : Option (List Int)} (h : sNum 16 st = (N, st1)) : VcI big st N 0 [] st1 := by
 cases st1 with
 | none =>
  rintro R0 rfl
  unfold lsPast
  cases hp : U.pNum 16 R0 with
  | none => rfl
  | some y => obtain ⟨v, R'⟩ := y; rw [sNum_ok hp] at h; cases h
 | some R1 =>
  obtain ⟨R, rfl, hp⟩ := sNum_some h
  refine ⟨R, R1, rfl, hp, ?_⟩
  rw [Nat.sub_zero]
  cases rdVec N R1 <;> rfl
theorem VcI.next {big : Int} {N k x : Nat} {V R1 : List Int} {s5 : Option (List Int)} (h : VcI big st N k V (some R1)) (hk : k < N) (h5 : sNum 1000000000 (some R1) = (x, s5)) : VcI big st N (k + 1) (V ++ [(x : Int)]) s5 := by
 obtain ⟨R0, Z0, rfl, hp, hr⟩ := h
 rw [show N - k = (N - (k + 1)) + 1 by omega] at hr
 cases hq : U.pNum 1000000000 R1 with
 | none =>
  rw [sNum_bad hq] at h5
  simp only [Prod.mk.injEq] at h5
  obtain ⟨-, rfl⟩ := h5
  rintro R0' e
  obtain rfl := Option.some.inj e
  rw [rdVec_bad hq] at hr
  unfold lsPast
  rw [hp]
  simp only
  rw [← hr]
  rfl
 | some y =>
  obtain ⟨v, R2⟩ := y
  rw [sNum_ok hq] at h5
  simp only [Prod.mk.injEq] at h5
  obtain ⟨rfl, rfl⟩ := h5
  exact ⟨R0, Z0, rfl, hp, by rw [← hr, rdVec_next hq]⟩
def VcJ (big : Int) (st : Option (List Int)) (V : List Int) : Option (List Int) → Prop
 | none => ∀ R0, st = some R0 → lsPast big R0 = none
 | some R1 => (∃ R0, st = some R0 ∧ lsPast big R0 = lsCl big V R1) ∧ ∀ k, 0 ≤ trl V k ∧ trl V k ≤ 1000000000
theorem VcI.done {big : Int} {N : Nat} {V R1 : List Int} (h : VcI big st N N V (some R1)) : VcJ big st V (some R1) := by
 obtain ⟨R0, Z0, rfl, hp, hr⟩ := h
 rw [Nat.sub_self, rdVec] at hr
 have hv : rdVec N Z0 = some (V, R1) := by rw [← hr]; simp
 refine ⟨⟨R0, rfl, ?_⟩, rdVec_bd N hv⟩
 unfold lsPast
 rw [hp]
 simp only
 rw [hv]
def ClI (big : Int) (st : Option (List Int)) (V : List Int) (M k r : Nat) (hi : Int) (C : List Sn) : Option (List Int) → Prop
 | none => ∀ R0, st = some R0 → lsPast big R0 = none
 | some R1 => ∃ R0 Z3 T, st = some R0 ∧ lsPast big R0 = (rdCloud M (trl V) 0 Z3).map (fun x => (⟨V, x.1⟩, x.2)) ∧ (rdCloud (M - k) T (r : Int) R1).map (fun x => (C ++ x.1, x.2)) = rdCloud M (trl V) 0 Z3 ∧ r ≤ 15 ∧ (∀ j, 0 ≤ T j ∧ T j ≤ 1000000000) ∧ LstOk k (r : Int) hi V T
theorem cl_start {big : Int} {M : Nat} {V : List Int} {st2 st3 : Option (List Int)} (hJ : VcJ big st V st2) (h : sNum big st2 = (M, st3)) : ClI big st V M 0 0 0 [] st3 := by
 cases st3 with
 | none =>
  cases st2 with
  | none => exact hJ
  | some R1 =>
   obtain ⟨⟨R0, rfl, hl⟩, -⟩ := hJ
   rintro R0' e
   obtain rfl := Option.some.inj e
   rw [hl]
   unfold lsCl
   cases hp : U.pNum big R1 with
   | none => rfl
   | some y => obtain ⟨v, R'⟩ := y; rw [sNum_ok hp] at h; cases h
 | some R3 =>
  obtain ⟨R, rfl, hp⟩ := sNum_some h
  obtain ⟨⟨R0, rfl, hl⟩, hb⟩ := hJ
  refine ⟨R0, R3, trl V, rfl, ?_, ?_, by decide, hb, lst_start _ _ _⟩
  ·rw [hl]
   unfold lsCl
   rw [hp]
   simp only
   cases rdCloud M (trl V) 0 R3 <;> rfl
  ·rw [Nat.sub_zero]
   show (rdCloud M (trl V) 0 R3).map _ = _
   cases rdCloud M (trl V) 0 R3 <;> rfl
theorem ls_of {T : Nat → Int} {r a b c : Nat} {R : List Int} {sa sb sc : Option (List Int)} (ha : sNum 16 (some R) = (a, sa)) (hb : sNum 1000000000 sa = (b, sb)) (hc : sNum 1000000000 sb = (c, sc)) :
  (sc = none ∧ lsSp T (r : Int) R = none) ∨ ∃ R3, sc = some R3 ∧ lsSp T (r : Int) R = if r + a ≤ 15 ∧ T (r + a) + 2 + b + c ≤ 1000000000 then some (((r + a : Nat) : Int), T (r + a) + 2 + b, T (r + a) + 2 + b + c, R3) else none := by
 have ei : ∀ x : Nat, ((r : Int) + (x : Int)).toNat = r + x := fun x => by omega
 cases h1 : U.pNum 16 R with
 | none =>
  rw [sNum_bad h1] at ha
  simp only [Prod.mk.injEq] at ha
  obtain ⟨-, rfl⟩ := ha
  cases hb
  cases hc
  exact .inl ⟨rfl, by unfold lsSp lsPl; rw [h1]⟩
 | some y =>
  obtain ⟨v, R1⟩ := y
  rw [sNum_ok h1] at ha
  simp only [Prod.mk.injEq] at ha
  obtain ⟨rfl, rfl⟩ := ha
  cases h2 : U.pNum 1000000000 R1 with
  | none =>
   rw [sNum_bad h2] at hb
   simp only [Prod.mk.injEq] at hb
   obtain ⟨-, rfl⟩ := hb
   cases hc
   exact .inl ⟨rfl, by unfold lsSp lsPl; rw [h1]; simp only; rw [h2]⟩
  | some y =>
   obtain ⟨v2, R2⟩ := y
   rw [sNum_ok h2] at hb
   simp only [Prod.mk.injEq] at hb
   obtain ⟨rfl, rfl⟩ := hb
   cases h3 : U.pNum 1000000000 R2 with
   | none =>
    rw [sNum_bad h3] at hc
    simp only [Prod.mk.injEq] at hc
    obtain ⟨-, rfl⟩ := hc
    exact .inl ⟨rfl, by unfold lsSp lsPl; rw [h1]; simp only; rw [h2]; simp only; rw [h3]⟩
   | some y =>
    obtain ⟨v3, R3⟩ := y
    rw [sNum_ok h3] at hc
    simp only [Prod.mk.injEq] at hc
    obtain ⟨rfl, rfl⟩ := hc
    refine .inr ⟨R3, rfl, ?_⟩
    unfold lsSp lsPl
    rw [h1]
    simp only
    rw [h2]
    simp only
    rw [h3]
    simp only [ei]
    by_cases h : r + v ≤ 15 ∧ T (r + v) + 2 + v2 + v3 ≤ 1000000000
    ·rw [if_pos h, if_pos ⟨by omega, h.2⟩, Int.natCast_add]
    ·rw [if_neg h, if_neg (fun h' => h ⟨by omega, h'.2⟩)]
theorem ClI.next {big hi : Int} {V R : List Int} {M k r a b c : Nat} {C : List Sn} {sa sb sc : Option (List Int)} (h : ClI big st V M k r hi C (some R)) (hk : k < M) (ha : sNum 16 (some R) = (a, sa)) (hb : sNum 1000000000 sa = (b, sb)) (hc : sNum 1000000000 sb = (c, sc)) :
  ∃ y : Int, y = (if 0 < k ∧ a = 0 then hi else trl V (r + a)) + 2 ∧ (2 ≤ y ∧ y ≤ 1000000002) ∧ (¬ (r + a ≤ 15 ∧ y + b + c ≤ 1000000000) → ∀ R0, st = some R0 → lsPast big R0 = none) ∧ (r + a ≤ 15 ∧ y + b + c ≤ 1000000000 → ClI big st V M (k + 1) (r + a) (y + b + c) (C ++ [⟨((r + a : Nat) : Int), y + b, y + b + c⟩]) sc) := by
 obtain ⟨R0, Z3, T, rfl, hl, hr, h15, hT, hL⟩ := h
 have hTr := hT (r + a)
 have eT := hL (r + a) (by omega)
 have e2 : (0 < k ∧ ((r + a : Nat) : Int) = (r : Int)) ↔ (0 < k ∧ a = 0) := by constructor <;> rintro ⟨x, y⟩ <;> exact ⟨x, by omega⟩
 rw [show (if 0 < k ∧ ((r + a : Nat) : Int) = (r : Int) then hi else trl V (r + a)) = (if 0 < k ∧ a = 0 then hi else trl V (r + a)) by simp only [e2]] at eT
 rw [show M - k = (M - (k + 1)) + 1 by omega, rdCloud_loose _ R (by omega) (fun j => (hT j).1)] at hr
 refine ⟨T (r + a) + 2, by rw [eT], ⟨by omega, by omega⟩, ?_, ?_⟩
 ·intro hno R0' e
  obtain rfl := Option.some.inj e
  rw [hl, ← hr]
  rcases ls_of (T := T) (r := r) ha hb hc with ⟨-, h1⟩ | ⟨R3, -, h1⟩
  ·rw [h1]; rfl
  ·rw [h1, if_neg hno]; rfl
 ·intro hyes
  rcases ls_of (T := T) (r := r) ha hb hc with ⟨rfl, h1⟩ | ⟨R3, rfl, h1⟩
  ·rintro R0' e
   obtain rfl := Option.some.inj e
   rw [hl, ← hr, h1]; rfl
  ·rw [h1, if_pos hyes] at hr
   simp only [Int.toNat_natCast] at hr
   refine ⟨R0, Z3, upd T (r + a) (T (r + a) + 2 + b + c), rfl, hl, ?_, hyes.1, fun j => ?_, hL.next (r + a) (by omega) _⟩
   ·rw [← hr]
    cases rdCloud (M - (k + 1)) (upd T (r + a) (T (r + a) + 2 + b + c)) ((r + a : Nat) : Int) R3 with
    | none => rfl
    | some y => obtain ⟨L, R'⟩ := y; simp
   ·unfold upd
    split
    ·exact ⟨by omega, hyes.2⟩
    ·exact hT j
theorem ClI.done {big hi : Int} {V R : List Int} {M r : Nat} {C : List Sn} (h : ClI big st V M M r hi C (some R)) : ∃ R0, st = some R0 ∧ lsPast big R0 = some (⟨V, C⟩, R) := by
 obtain ⟨R0, Z3, T, rfl, hl, hr, -⟩ := h
 rw [Nat.sub_self, rdCloud] at hr
 refine ⟨R0, rfl, ?_⟩
 rw [hl, ← hr]
 simp
def ClJ (big : Int) (st : Option (List Int)) (P : Pst) : Option (List Int) → Prop
 | none => ∀ R0, st = some R0 → lsPast big R0 = none
 | some R1 => ∃ R0, st = some R0 ∧ lsPast big R0 = some (P, R1)
def PaS (w w' : World) (e : Ending) (g : Nat) (q : Sq) (st : Option (List Int)) : Prop :=
 ∃ p st', e = .returned (PV p) ∧ PN w.heap.size w' p ∧ SB w' g q st' ∧ U.Kg w w' g ∧ ((st' = none ∧ ∀ R P R', st = some R → rdPast R = some (P, R') → ¬ InForm P) ∨ ∃ R R', st = some R ∧ st' = some R' ∧ rdPast R = some (p.P, R') ∧ InForm p.P)
theorem SP.pn {vo co : Option Addr} {vn vc cn cc : Nat} {V : List Int} {C : List Sn} {F : List (Nat × Obj)} (h : SP w0 W g q st b3 vo vn vc V co cn cc C F) (hv : vn ≤ 16) (hc : cn ≤ 16000000015) : PN w0.heap.size W ⟨vo, vn, vc, co, cn, cc, ⟨V, C⟩⟩ := ⟨h.v, h.c, fun k e => (h.vnew k e).1, fun k e => (h.cnew k e).1, hv, hc⟩
theorem SB.oc {R : List Int} (h : SB W g q (some R)) : U.Oc R ∧ R.length ≤ q.n := by
 obtain ⟨a, b, h1, h2, h3, h4, h5, -, rfl⟩ := h
 refine ⟨U.Oc.drop h3.2.2.2 a, ?_⟩
 rw [List.length_drop, h3.1]
 omega
theorem SB.bad_cell (h : SB W g q st) : W.cell? ⟨g, 0, none⟩ = some (.slice q.o q.n q.c) ∧ W.cell? ⟨g, 2, none⟩ = some (.bool st.isNone) ∧ ∀ j, W.frozen? ⟨g, j, none⟩ = false := by
 obtain ⟨a, b, hG, hI⟩ := h.sg
 obtain ⟨c0, c1, c2, fz⟩ := sc_cells hG.box
 refine ⟨c0, ?_, fz⟩
 rw [c2]
 cases st with
 | none => obtain rfl : b = true := hI; rfl
 | some R => obtain ⟨rfl, -⟩ := hI; rfl
theorem SB.spoil (h : SB W g q st) : SB (W.setCell ⟨g, 2, none⟩ (.bool true)) g q none ∧ U.Kg W (W.setCell ⟨g, 2, none⟩ (.bool true)) g := by
 obtain ⟨a, b, hG, -⟩ := h.sg
 exact (hG.setB (b' := true)).bad
abbrev pstO : Obj := .cells #[.slice none 0 0, .slice none 0 0] 25
set_option maxRecDepth 100000 in
set_option maxHeartbeats 12800000 in
theorem spast_any (hS : SB w g q st) (hB : q.n ≠ 0 → ∀ k, U.blk q.o = some k → k < w.heap.size) (hq : q.n ≤ 4000000000) : Calls Tryz.prog 71 #[U.ptr g] w fun e w' => PaS w w' e g q st := by
 obtain ⟨b1, hb1⟩ : ∃ b1, w.heap.size = b1 := ⟨_, rfl⟩
 have HOc : Hid (∀ R, st = some R → U.Oc R ∧ (R.length : Int) ≤ (q.n : Int)) := fun R e => by subst e; have := hS.oc; exact ⟨this.1, by omega⟩
 have n1 := U.below_new w (.cells #[.slice none 0 0, .slice none 0 0] 25)
 have x1 := heap_alloc_new w (.cells #[.slice none 0 0, .slice none 0 0] 25)
 have s1 : (w.alloc (.cells #[.slice none 0 0, .slice none 0 0] 25)).heap.size = b1 + 1 := by rw [← hb1]; simp
 obtain ⟨W1, hW1⟩ : ∃ W1, w.alloc (.cells #[.slice none 0 0, .slice none 0 0] 25) = W1 := ⟨_, rfl⟩
 rw [hW1] at n1 x1 s1
 have P0 := SP.start (F := [(b1, pstO)]) hS hB n1 (fun x hx => by
  obtain rfl := List.mem_singleton.1 hx
  exact ⟨by rw [hb1] at x1; exact x1, by show _ ≤ b1; omega⟩)
 obtain ⟨W2, hW2⟩ : ∃ W2, W1.alloc (.cells #[.slice none 0 0, .slice none 0 0] 25) = W2 := ⟨_, rfl⟩
 rw [hW2, s1] at P0
 have HP := hide P0
 have HQ := hide hq
 clear P0 n1 x1 hS hB hq
 go_enter Tryz.func71, Tryz.ntmps71
 go_wp2_with fail
 clear hW1 hW2 s1
 refine (snum_any HP.out.r 16 (by decide) (by have := HQ.out; omega)).mono ?_
 rintro e W4 ⟨rfl, R4, K4⟩
 have hN0 := sNum_le (most := 16) (by decide) st
 obtain ⟨N, st1, h1⟩ : ∃ N st1, sNum 16 st = (N, st1) := ⟨_, _, rfl⟩
 rw [h1] at R4 hN0 ⊢
 simp only at R4 hN0 ⊢
 have hN : N ≤ 16 := by omega
 have HP4 := hide (HP.out.num K4 R4)
 have HV0 := hide (vc_start (big := (q.n : Int)) h1)
 clear R4 K4 HP h1 hN0
 go_upto_block 0 with fail
 go_cut [5] (fun _ wx => Hid (∃ vo vn vc V st2, vn ≤ 16 ∧ SP w wx g q st2 (b1 + 1) vo vn vc V none 0 0 [] [(b1, pstO)] ∧ VcJ (q.n : Int) st V st2))
 case first =>
  go_wp2_with fail
  go_loopw [5] (fun i wr => ∃ (k : Nat) (vo : Option Addr) (vn vc : Nat) (V : List Int) (st2 : Option (List Int)), k ≤ N ∧ i = .int .i64 k ∧ vn ≤ k ∧ Hid (SP w wr g q st2 (b1 + 1) vo vn vc V none 0 0 [] [(b1, pstO)] ∧ VcI (q.n : Int) st N k V st2)) (fun i _ => N - (intOf i).toNat)
  case atStart => exact ⟨0, none, 0, 0, [], st1, Nat.zero_le _, rfl, Nat.le_refl _, HP4.out, HV0.out⟩
  case round =>
   obtain ⟨k, vo, vn, vc, V, st2, hk, rfl, hvn, HZ⟩ := hrel
   rename World => wr
   obtain ⟨-, c2, -⟩ := HZ.out.1.r.bad_cell
   cases st2 with
   | none =>
    have c2 : wr.cell? ⟨g, 2, none⟩ = some (.bool true) := c2
    have HE : Hid (∃ vo vn vc V st2, vn ≤ 16 ∧ SP w wr g q st2 (b1 + 1) vo vn vc V none 0 0 [] [(b1, pstO)] ∧ VcJ (q.n : Int) st V st2) := ⟨vo, vn, vc, V, none, by omega, HZ.out.1, HZ.out.2⟩
    by_cases hlt : k < N
    ·have hlti : ((k : Nat) : Int) < (N : Int) := by omega
     go_wp2_with fail
     go_meet
     case rel => exact HE
    ·have hlti : ¬ ((k : Nat) : Int) < (N : Int) := by omega
     go_wp2_with fail
     go_meet
     case rel => exact HE
   | some R1 =>
    have c2 : wr.cell? ⟨g, 2, none⟩ = some (.bool false) := c2
    by_cases hlt : k < N
    ·have hlti : ((k : Nat) : Int) < (N : Int) := by omega
     have HD := hide (HZ.out.1.below (U.below_drew1 wr))
     have HV := hide HZ.out.2
     have x0d := (pbox_c0 HD.out.box).1
     clear HZ
     go_upto_region 6 with fail
     refine wp_region_held_drew (S := fun _ => True) (by kernel_rfl) (trivial) (fun hHeld => ?_)
     refine wTk 0 ⟨some 27, .fieldAddr 25 (.tmp 3) 0, 0, "ref.go:157", #[], none⟩ rfl ?_
     refine wTk 2 ⟨some 29, .move (.tmp 0), 137, "ref.go:157", #[], none⟩ rfl ?_
     refine wpAnyH_ready (rs := [1, 3]) (by kernel_rfl) (by simp) ?_
     refine AllReadyH.cons rfl (fun K hK => ?_) (AllReadyH.cons rfl (fun K hK => ?_) AllReadyH.nil)
     ·go_simp
      refine hK.out _ _ trivial (fun hHeld => ?_)
      clear hK K
      refine wpAnyH_ready (rs := [3]) (by kernel_rfl) (by simp) (.cons rfl (fun K hK => ?_) .nil)
      go_simp
      go_wp2_with fail
      refine (snum_any HD.out.r 1000000000 (by decide) (by have := HQ.out; omega)).mono ?_
      rintro e W5 ⟨rfl, R5, K5⟩
      obtain ⟨x, s5, h5⟩ : ∃ x s5, sNum 1000000000 (some R1) = (x, s5) := ⟨_, _, rfl⟩
      rw [h5] at R5 ⊢
      simp only at R5 ⊢
      have HP5 := hide (HD.out.num K5 R5)
      have HS5 := hide (HV.out.next hlt h5)
      have HL5 := hide (HP5.out.below (U.below_new W5 (.cells #[.int .i64 (x : Int)] 3)))
      have y5 := (pbox_c0 HP5.out.box).1
      have z5 := (pbox_c0 HL5.out.box).1
      obtain ⟨bo, c2, W6, hrun, R6, A6⟩ := HP5.out.v.runs1 (x : Int) (by omega) 22
      have HP7 := hide (HP5.out.appV A6 R6)
      have h6 := HP5.out.heldV A6
      have y6 := (pbox_c0 h6.1).1
      have f6 := (pbox_c0 h6.1).2.2 0
      clear h5 R5 K5 A6 R6 h6
      refine hK.out _ _ trivial (fun hHeld => ?_)
      clear hK K
      refine wpAnyH_ready (rs := [4]) (by kernel_rfl) (by simp) (.cons rfl (fun K hK => ?_) .nil)
      go_simp
      refine hK.out _ _ trivial (fun hHeld => ?_)
      clear hK K
      refine wpAnyH_ready (rs := [5]) (by kernel_rfl) (by simp) (.cons rfl (fun K hK => ?_) .nil)
      refine step_appI rfl (.tmp 28) (.tmp 31) rfl rfl rfl hrun ?_
      simp only [Act.put, List.setIfInBounds_toArray]
      refine hK.out _ _ trivial (fun hHeld => ?_)
      clear hK K
      refine wTn 6 ⟨some 33, .fieldAddr 25 (.tmp 3) 0, 0, "ref.go:157", #[⟨0, .phase⟩, ⟨1, .phase⟩, ⟨2, .phase⟩, ⟨3, .phase⟩, ⟨4, .phase⟩, ⟨5, .phase⟩], none⟩ rfl ?_
      simp only [Act.put]
      refine wpAnyH_ready (rs := [7]) (by kernel_rfl) (by simp) (.cons rfl (fun K hK => ?_) .nil)
      go_simp
      refine hK.out _ _ trivial (fun hHeld => ?_)
      clear hK K
      refine wpAnyH_done (by kernel_rfl) ?_ _
      clear hHeld
      go_wp2_with fail
      go_roundw
      case rel => exact ⟨k + 1, bo, vn + 1, c2, V ++ [(x : Int)], s5, by omega, by simp, by omega, HP7.out, HS5.out⟩
      case measure => simp [intOf]; omega
     ·go_simp
      go_wp2_with fail
      refine (snum_any HD.out.r 1000000000 (by decide) (by have := HQ.out; omega)).mono ?_
      rintro e W5 ⟨rfl, R5, K5⟩
      obtain ⟨x, s5, h5⟩ : ∃ x s5, sNum 1000000000 (some R1) = (x, s5) := ⟨_, _, rfl⟩
      rw [h5] at R5 ⊢
      simp only at R5 ⊢
      have HP5 := hide (HD.out.num K5 R5)
      have HS5 := hide (HV.out.next hlt h5)
      have HL5 := hide (HP5.out.below (U.below_new W5 (.cells #[.int .i64 (x : Int)] 3)))
      have y5 := (pbox_c0 HP5.out.box).1
      have z5 := (pbox_c0 HL5.out.box).1
      obtain ⟨bo, c2, W6, hrun, R6, A6⟩ := HP5.out.v.runs1 (x : Int) (by omega) 22
      have HP7 := hide (HP5.out.appV A6 R6)
      have h6 := HP5.out.heldV A6
      have y6 := (pbox_c0 h6.1).1
      have f6 := (pbox_c0 h6.1).2.2 0
      clear h5 R5 K5 A6 R6 h6
      refine hK.out _ _ trivial (fun hHeld => ?_)
      clear hK K
      refine wpAnyH_ready (rs := [1, 4]) (by kernel_rfl) (by simp) ?_
      refine AllReadyH.cons rfl (fun K hK => ?_) (AllReadyH.cons rfl (fun K hK => ?_) AllReadyH.nil)
      ·go_simp
       refine hK.out _ _ trivial (fun hHeld => ?_)
       clear hK K
       refine wpAnyH_ready (rs := [4]) (by kernel_rfl) (by simp) (.cons rfl (fun K hK => ?_) .nil)
       go_simp
       refine hK.out _ _ trivial (fun hHeld => ?_)
       clear hK K
       refine wpAnyH_ready (rs := [5]) (by kernel_rfl) (by simp) (.cons rfl (fun K hK => ?_) .nil)
       refine step_appI rfl (.tmp 28) (.tmp 31) rfl rfl rfl hrun ?_
       simp only [Act.put, List.setIfInBounds_toArray]
       refine hK.out _ _ trivial (fun hHeld => ?_)
       clear hK K
       refine wTn 6 ⟨some 33, .fieldAddr 25 (.tmp 3) 0, 0, "ref.go:157", #[⟨0, .phase⟩, ⟨1, .phase⟩, ⟨2, .phase⟩, ⟨3, .phase⟩, ⟨4, .phase⟩, ⟨5, .phase⟩], none⟩ rfl ?_
       simp only [Act.put]
       refine wpAnyH_ready (rs := [7]) (by kernel_rfl) (by simp) (.cons rfl (fun K hK => ?_) .nil)
       go_simp
       refine hK.out _ _ trivial (fun hHeld => ?_)
       clear hK K
       refine wpAnyH_done (by kernel_rfl) ?_ _
       clear hHeld
       go_wp2_with fail
       go_roundw
       case rel => exact ⟨k + 1, bo, vn + 1, c2, V ++ [(x : Int)], s5, by omega, by simp, by omega, HP7.out, HS5.out⟩
       case measure => simp [intOf]; omega
      ·go_simp
       refine hK.out _ _ trivial (fun hHeld => ?_)
       clear hK K
       refine wpAnyH_ready (rs := [1]) (by kernel_rfl) (by simp) (.cons rfl (fun K hK => ?_) .nil)
       go_simp
       refine hK.out _ _ trivial (fun hHeld => ?_)
       clear hK K
       refine wpAnyH_ready (rs := [5]) (by kernel_rfl) (by simp) (.cons rfl (fun K hK => ?_) .nil)
       refine step_appI rfl (.tmp 28) (.tmp 31) rfl rfl rfl hrun ?_
       simp only [Act.put, List.setIfInBounds_toArray]
       refine hK.out _ _ trivial (fun hHeld => ?_)
       clear hK K
       refine wTn 6 ⟨some 33, .fieldAddr 25 (.tmp 3) 0, 0, "ref.go:157", #[⟨0, .phase⟩, ⟨1, .phase⟩, ⟨2, .phase⟩, ⟨3, .phase⟩, ⟨4, .phase⟩, ⟨5, .phase⟩], none⟩ rfl ?_
       simp only [Act.put]
       refine wpAnyH_ready (rs := [7]) (by kernel_rfl) (by simp) (.cons rfl (fun K hK => ?_) .nil)
       go_simp
       refine hK.out _ _ trivial (fun hHeld => ?_)
       clear hK K
       refine wpAnyH_done (by kernel_rfl) ?_ _
       clear hHeld
       go_wp2_with fail
       go_roundw
       case rel => exact ⟨k + 1, bo, vn + 1, c2, V ++ [(x : Int)], s5, by omega, by simp, by omega, HP7.out, HS5.out⟩
       case measure => simp [intOf]; omega
    ·have hlti : ¬ ((k : Nat) : Int) < (N : Int) := by omega
     have HE : Hid (∃ vo vn vc V st2, vn ≤ 16 ∧ SP w wr g q st2 (b1 + 1) vo vn vc V none 0 0 [] [(b1, pstO)] ∧ VcJ (q.n : Int) st V st2) := ⟨vo, vn, vc, V, some R1, by omega, HZ.out.1, by
      have h := HZ.out.2
      obtain rfl : k = N := by omega
      exact h.done⟩
     go_wp2_with fail
     go_meet
     case rel => exact HE
 case rest =>
  rename World => wz
  obtain ⟨vo, vn, vc, V, st2, hvn, hP5, hJ⟩ := hcut.out
  have HP5 := hide hP5
  have HJ := hide hJ
  obtain ⟨c0, -, -⟩ := hP5.r.bad_cell
  clear hcut hP5 hJ HP4 HV0
  go_wp2_with fail
  refine (snum_any HP5.out.r (q.n : Int) (by have := HQ.out; omega) (by have := HQ.out; omega)).mono ?_
  rintro e W6 ⟨rfl, R6, K6⟩
  have hM0 := sNum_le (most := (q.n : Int)) (by omega) st2
  obtain ⟨M, st3, h3⟩ : ∃ M st3, sNum (q.n : Int) st2 = (M, st3) := ⟨_, _, rfl⟩
  rw [h3] at R6 hM0 ⊢
  simp only at R6 hM0 ⊢
  have hM : M ≤ 4000000000 := by have := HQ.out; omega
  have HP6 := hide (HP5.out.num K6 R6)
  have HC0 := hide (cl_start HJ.out h3)
  clear R6 K6 HP5 h3 hM0 c0 HJ
  go_upto_block 2 with fail
  go_cut [6, 7, 8, 9, 10, 11, 12] (fun _ _ _ _ _ _ _ wx => Hid (∃ co cn cc C st4, cn ≤ 16000000015 ∧ SP w wx g q st4 (b1 + 1) vo vn vc V co cn cc C [(b1, pstO)] ∧ ClJ (q.n : Int) st ⟨V, C⟩ st4))
  case first =>
   go_wp2_with fail
   go_loopw [6, 7, 8] (fun r x i wr => ∃ (k ro : Nat) (hi : Int) (co : Option Addr) (cn cc : Nat) (C : List Sn) (st4 : Option (List Int)), k ≤ M ∧ i = .int .i64 k ∧ r = .int .i64 ro ∧ x = .int .i64 hi ∧ cn ≤ k ∧ Hid (SP w wr g q st4 (b1 + 1) vo vn vc V co cn cc C [(b1, pstO)] ∧ ClI (q.n : Int) st V M k ro hi C st4)) (fun _ _ i _ => M - (intOf i).toNat)
   case atStart => exact ⟨0, 0, 0, none, 0, 0, [], st3, Nat.zero_le _, rfl, rfl, rfl, Nat.le_refl _, HP6.out, HC0.out⟩
   case round =>
    obtain ⟨k, ro, hi, co, cn, cc, C, st4, hk, rfl, rfl, rfl, hcn, HZ⟩ := hrel
    rename World => wr
    obtain ⟨-, c2, -⟩ := HZ.out.1.r.bad_cell
    cases st4 with
    | none =>
     have c2 : wr.cell? ⟨g, 2, none⟩ = some (.bool true) := c2
     have HE : Hid (∃ co cn cc C st4, cn ≤ 16000000015 ∧ SP w wr g q st4 (b1 + 1) vo vn vc V co cn cc C [(b1, pstO)] ∧ ClJ (q.n : Int) st ⟨V, C⟩ st4) := ⟨co, cn, cc, C, none, by omega, HZ.out.1, HZ.out.2⟩
     by_cases hlt : k < M
     ·have hlti : ((k : Nat) : Int) < (M : Int) := by omega
      go_wp2_with fail
      go_meet
      case rel => exact HE
     ·have hlti : ¬ ((k : Nat) : Int) < (M : Int) := by omega
      go_wp2_with fail
      go_meet
      case rel => exact HE
    | some R1 =>
     have c2 : wr.cell? ⟨g, 2, none⟩ = some (.bool false) := c2
     by_cases hlt : k < M
     ·have hlti : ((k : Nat) : Int) < (M : Int) := by omega
      have HPk := hide HZ.out.1
      have HCk := hide HZ.out.2
      have Hlt := hide hlt
      have hro : ro ≤ 15 := by obtain ⟨_, _, _, _, _, _, h, _⟩ := HZ.out.2; exact h
      clear HZ
      go_wp2_with fail
      refine (snum_any HPk.out.r 16 (by decide) (by have := HQ.out; omega)).mono ?_
      rintro e Wa ⟨rfl, Ra, Ka⟩
      have ha0 := sNum_le (most := 16) (by decide) (some R1)
      obtain ⟨a, sa, hsa⟩ : ∃ a sa, sNum 16 (some R1) = (a, sa) := ⟨_, _, rfl⟩
      rw [hsa] at Ra ha0 ⊢
      simp only at Ra ha0 ⊢
      have HPa := hide (HPk.out.num Ka Ra)
      have Hsa := hide hsa
      clear Ra Ka hsa c2 HPk
      go_wp2_with fail
      refine (snum_any HPa.out.r 1000000000 (by decide) (by have := HQ.out; omega)).mono ?_
      rintro e Wb ⟨rfl, Rb, Kb⟩
      have hb0 := sNum_le (most := 1000000000) (by decide) sa
      obtain ⟨b, sb, hsb⟩ : ∃ b sb, sNum 1000000000 sa = (b, sb) := ⟨_, _, rfl⟩
      rw [hsb] at Rb hb0 ⊢
      simp only at Rb hb0 ⊢
      have HPb := hide (HPa.out.num Kb Rb)
      have Hsb := hide hsb
      clear Rb Kb hsb HPa
      go_wp2_with fail
      refine (snum_any HPb.out.r 1000000000 (by decide) (by have := HQ.out; omega)).mono ?_
      rintro e Wc ⟨rfl, Rc, Kc⟩
      have hc0 := sNum_le (most := 1000000000) (by decide) sb
      obtain ⟨c, sc, hsc⟩ : ∃ c sc, sNum 1000000000 sb = (c, sc) := ⟨_, _, rfl⟩
      rw [hsc] at Rc hc0 ⊢
      simp only at Rc hc0 ⊢
      have HPc := hide (HPb.out.num Kc Rc)
      obtain ⟨y, hy, hyb, hno, hyes⟩ := HCk.out.next Hlt.out Hsa.out Hsb.out hsc
      have HNo := hide hno
      have HYes := hide hyes
      have HYb := hide hyb
      have HY := hide hy
      clear Rc Kc hsc HPb hno hyes hy
      obtain ⟨rr, hrr⟩ : ∃ rr, ro + a = rr := ⟨_, rfl⟩
      have hri : (ro : Int) + (a : Int) = (rr : Int) := by omega
      have hrb : rr ≤ 31 := by omega
      have HR3 : Hid (rr < 1000) := by show _ < _; omega
      have HK1 : Hid (k + 1 ≤ M ∧ cn + 1 ≤ k + 1 ∧ M - (k + 1) < M - k) := ⟨by omega, by omega, by omega⟩
      have HCn : Hid (cn + 1 ≤ 5864062014805) := by show _ ≤ _; omega
      have HRr := hide hrr
      rw [hrr] at HNo HYes HY
      have lP := run_ldP (PBox.at (p := ⟨vo, vn, vc, co, cn, cc, ⟨V, C⟩⟩) HPc.out.box)
      have HPS := hide (HPc.out.pn hvn (by omega)).src
      clear hrr
      go_wp2_with fail
      refine (vecAt9_any ⟨vo, vn, vc, co, cn, cc, ⟨V, C⟩⟩ rr _ HPS.out HR3.out).mono ?_
      rintro e Wd ⟨rfl, bd⟩
      have HPd := hide (HPc.out.below bd)
      obtain ⟨tv, htv⟩ : ∃ tv, trl V rr = tv := ⟨_, rfl⟩
      have htv' : trl (Pv.P ⟨vo, vn, vc, co, cn, cc, ⟨V, C⟩⟩).vec rr = tv := htv
      rw [htv']
      rw [htv] at HY
      have y9 := (pbox_c0 HPd.out.box).2.1
      obtain ⟨yl, hyl⟩ : ∃ yl, y + (b : Int) = yl := ⟨_, rfl⟩
      rw [hyl] at HNo HYes
      obtain ⟨yh, hyh⟩ : ∃ yh, yl + (c : Int) = yh := ⟨_, rfl⟩
      rw [hyh] at HNo HYes
      have hylb : 0 ≤ yl ∧ yl ≤ 2000000002 := ⟨by omega, by omega⟩
      have hyhb : 0 ≤ yh ∧ yh ≤ 3000000002 := ⟨by omega, by omega⟩
      have hyl0 := hylb.1
      have hyl1 := hylb.2
      have hyh0 := hyhb.1
      have hyh1 := hyhb.2
      have hyb0 := HYb.out.1
      have hyb1 := HYb.out.2
      clear hylb hyhb
      have hcn2 := HCn.out
      clear lP bd htv htv' HPS HPc
      by_cases hk0 : 0 < k
      ·have hki : (0 : Int) < (k : Int) := by omega
       by_cases ha : a = 0
       ·have hae : ((a : Int) == 0) = true := by rw [ha]; rfl
        have hyw : hi + 2 = y := by
         have h1 := HY.out
         rw [if_pos ⟨hk0, ha⟩] at h1
         exact h1.symm
        clear ha
        by_cases h16 : 16 ≤ rr
        ·have h16i : (16 : Int) ≤ (rr : Int) := by omega
         have HLf : Hid (¬ (rr ≤ 15 ∧ yh ≤ 1000000000)) := fun h => by have := h.1; omega
         go_wp2_with (at_builtin; go_loud (refine J.BR.app1 HPd.out.c ⟨(rr : Int), yl, yh⟩ _ rfl hcn2 rfl (.tmp 82) (.tmp 89) rfl rfl rfl ?_); intro bo c2 We Re Ae; have he := HPd.out.heldC Ae; have y10 := (pbox_c0 he.1).2.1; have f10 := (pbox_c0 he.1).2.2 1; have HPe := hide (HPd.out.appC Ae Re); obtain ⟨-, ce, fe⟩ := HPe.out.r.bad_cell; clear he Re Ae)
         go_roundw
         case rel => exact ⟨k + 1, rr, yh, bo, cn + 1, c2, C ++ [⟨(rr : Int), yl, yh⟩], none, HK1.out.1, by simp, rfl, rfl, HK1.out.2.1, HPe.out.num HPe.out.r.spoil.2 HPe.out.r.spoil.1, HNo.out HLf.out⟩
         case measure => have := HK1.out.2.2; simp [intOf]; omega
        ·by_cases hhi : 1000000000 < yh
         ·have h16i : ¬ (16 : Int) ≤ (rr : Int) := by omega
          have HLf : Hid (¬ (rr ≤ 15 ∧ yh ≤ 1000000000)) := fun h => by have := h.2; omega
          go_wp2_with (at_builtin; go_loud (refine J.BR.app1 HPd.out.c ⟨(rr : Int), yl, yh⟩ _ rfl hcn2 rfl (.tmp 82) (.tmp 89) rfl rfl rfl ?_); intro bo c2 We Re Ae; have he := HPd.out.heldC Ae; have y10 := (pbox_c0 he.1).2.1; have f10 := (pbox_c0 he.1).2.2 1; have HPe := hide (HPd.out.appC Ae Re); obtain ⟨-, ce, fe⟩ := HPe.out.r.bad_cell; clear he Re Ae)
          go_roundw
          case rel => exact ⟨k + 1, rr, yh, bo, cn + 1, c2, C ++ [⟨(rr : Int), yl, yh⟩], none, HK1.out.1, by simp, rfl, rfl, HK1.out.2.1, HPe.out.num HPe.out.r.spoil.2 HPe.out.r.spoil.1, HNo.out HLf.out⟩
          case measure => have := HK1.out.2.2; simp [intOf]; omega
         ·have h16i : ¬ (16 : Int) ≤ (rr : Int) := by omega
          have HLf : Hid (rr ≤ 15 ∧ yh ≤ 1000000000) := ⟨by omega, by omega⟩
          go_wp2_with (at_builtin; go_loud (refine J.BR.app1 HPd.out.c ⟨(rr : Int), yl, yh⟩ _ rfl hcn2 rfl (.tmp 82) (.tmp 89) rfl rfl rfl ?_); intro bo c2 We Re Ae; have he := HPd.out.heldC Ae; have y10 := (pbox_c0 he.1).2.1; have f10 := (pbox_c0 he.1).2.2 1; have HPe := hide (HPd.out.appC Ae Re); obtain ⟨-, ce, fe⟩ := HPe.out.r.bad_cell; clear he Re Ae)
          go_roundw
          case rel => exact ⟨k + 1, rr, yh, bo, cn + 1, c2, C ++ [⟨(rr : Int), yl, yh⟩], sc, HK1.out.1, by simp, rfl, rfl, HK1.out.2.1, HPe.out, HYes.out HLf.out⟩
          case measure => have := HK1.out.2.2; simp [intOf]; omega
       ·have hae : ((a : Int) == 0) = false := by rw [beq_eq_false_iff_ne]; omega
        have hyw : tv + 2 = y := by
         have h1 := HY.out
         rw [if_neg (fun h => ha h.2)] at h1
         exact h1.symm
        clear ha
        by_cases h16 : 16 ≤ rr
        ·have h16i : (16 : Int) ≤ (rr : Int) := by omega
         have HLf : Hid (¬ (rr ≤ 15 ∧ yh ≤ 1000000000)) := fun h => by have := h.1; omega
         go_wp2_with (at_builtin; go_loud (refine J.BR.app1 HPd.out.c ⟨(rr : Int), yl, yh⟩ _ rfl hcn2 rfl (.tmp 82) (.tmp 89) rfl rfl rfl ?_); intro bo c2 We Re Ae; have he := HPd.out.heldC Ae; have y10 := (pbox_c0 he.1).2.1; have f10 := (pbox_c0 he.1).2.2 1; have HPe := hide (HPd.out.appC Ae Re); obtain ⟨-, ce, fe⟩ := HPe.out.r.bad_cell; clear he Re Ae)
         go_roundw
         case rel => exact ⟨k + 1, rr, yh, bo, cn + 1, c2, C ++ [⟨(rr : Int), yl, yh⟩], none, HK1.out.1, by simp, rfl, rfl, HK1.out.2.1, HPe.out.num HPe.out.r.spoil.2 HPe.out.r.spoil.1, HNo.out HLf.out⟩
         case measure => have := HK1.out.2.2; simp [intOf]; omega
        ·by_cases hhi : 1000000000 < yh
         ·have h16i : ¬ (16 : Int) ≤ (rr : Int) := by omega
          have HLf : Hid (¬ (rr ≤ 15 ∧ yh ≤ 1000000000)) := fun h => by have := h.2; omega
          go_wp2_with (at_builtin; go_loud (refine J.BR.app1 HPd.out.c ⟨(rr : Int), yl, yh⟩ _ rfl hcn2 rfl (.tmp 82) (.tmp 89) rfl rfl rfl ?_); intro bo c2 We Re Ae; have he := HPd.out.heldC Ae; have y10 := (pbox_c0 he.1).2.1; have f10 := (pbox_c0 he.1).2.2 1; have HPe := hide (HPd.out.appC Ae Re); obtain ⟨-, ce, fe⟩ := HPe.out.r.bad_cell; clear he Re Ae)
          go_roundw
          case rel => exact ⟨k + 1, rr, yh, bo, cn + 1, c2, C ++ [⟨(rr : Int), yl, yh⟩], none, HK1.out.1, by simp, rfl, rfl, HK1.out.2.1, HPe.out.num HPe.out.r.spoil.2 HPe.out.r.spoil.1, HNo.out HLf.out⟩
          case measure => have := HK1.out.2.2; simp [intOf]; omega
         ·have h16i : ¬ (16 : Int) ≤ (rr : Int) := by omega
          have HLf : Hid (rr ≤ 15 ∧ yh ≤ 1000000000) := ⟨by omega, by omega⟩
          go_wp2_with (at_builtin; go_loud (refine J.BR.app1 HPd.out.c ⟨(rr : Int), yl, yh⟩ _ rfl hcn2 rfl (.tmp 82) (.tmp 89) rfl rfl rfl ?_); intro bo c2 We Re Ae; have he := HPd.out.heldC Ae; have y10 := (pbox_c0 he.1).2.1; have f10 := (pbox_c0 he.1).2.2 1; have HPe := hide (HPd.out.appC Ae Re); obtain ⟨-, ce, fe⟩ := HPe.out.r.bad_cell; clear he Re Ae)
          go_roundw
          case rel => exact ⟨k + 1, rr, yh, bo, cn + 1, c2, C ++ [⟨(rr : Int), yl, yh⟩], sc, HK1.out.1, by simp, rfl, rfl, HK1.out.2.1, HPe.out, HYes.out HLf.out⟩
          case measure => have := HK1.out.2.2; simp [intOf]; omega
      ·have hki : ¬ (0 : Int) < (k : Int) := by omega
       have hyw : tv + 2 = y := by
        have h1 := HY.out
        rw [if_neg (fun h => hk0 h.1)] at h1
        exact h1.symm
       by_cases h16 : 16 ≤ rr
       ·have h16i : (16 : Int) ≤ (rr : Int) := by omega
        have HLf : Hid (¬ (rr ≤ 15 ∧ yh ≤ 1000000000)) := fun h => by have := h.1; omega
        go_wp2_with (at_builtin; go_loud (refine J.BR.app1 HPd.out.c ⟨(rr : Int), yl, yh⟩ _ rfl hcn2 rfl (.tmp 82) (.tmp 89) rfl rfl rfl ?_); intro bo c2 We Re Ae; have he := HPd.out.heldC Ae; have y10 := (pbox_c0 he.1).2.1; have f10 := (pbox_c0 he.1).2.2 1; have HPe := hide (HPd.out.appC Ae Re); obtain ⟨-, ce, fe⟩ := HPe.out.r.bad_cell; clear he Re Ae)
        go_roundw
        case rel => exact ⟨k + 1, rr, yh, bo, cn + 1, c2, C ++ [⟨(rr : Int), yl, yh⟩], none, HK1.out.1, by simp, rfl, rfl, HK1.out.2.1, HPe.out.num HPe.out.r.spoil.2 HPe.out.r.spoil.1, HNo.out HLf.out⟩
        case measure => have := HK1.out.2.2; simp [intOf]; omega
       ·by_cases hhi : 1000000000 < yh
        ·have h16i : ¬ (16 : Int) ≤ (rr : Int) := by omega
         have HLf : Hid (¬ (rr ≤ 15 ∧ yh ≤ 1000000000)) := fun h => by have := h.2; omega
         go_wp2_with (at_builtin; go_loud (refine J.BR.app1 HPd.out.c ⟨(rr : Int), yl, yh⟩ _ rfl hcn2 rfl (.tmp 82) (.tmp 89) rfl rfl rfl ?_); intro bo c2 We Re Ae; have he := HPd.out.heldC Ae; have y10 := (pbox_c0 he.1).2.1; have f10 := (pbox_c0 he.1).2.2 1; have HPe := hide (HPd.out.appC Ae Re); obtain ⟨-, ce, fe⟩ := HPe.out.r.bad_cell; clear he Re Ae)
         go_roundw
         case rel => exact ⟨k + 1, rr, yh, bo, cn + 1, c2, C ++ [⟨(rr : Int), yl, yh⟩], none, HK1.out.1, by simp, rfl, rfl, HK1.out.2.1, HPe.out.num HPe.out.r.spoil.2 HPe.out.r.spoil.1, HNo.out HLf.out⟩
         case measure => have := HK1.out.2.2; simp [intOf]; omega
        ·have h16i : ¬ (16 : Int) ≤ (rr : Int) := by omega
         have HLf : Hid (rr ≤ 15 ∧ yh ≤ 1000000000) := ⟨by omega, by omega⟩
         go_wp2_with (at_builtin; go_loud (refine J.BR.app1 HPd.out.c ⟨(rr : Int), yl, yh⟩ _ rfl hcn2 rfl (.tmp 82) (.tmp 89) rfl rfl rfl ?_); intro bo c2 We Re Ae; have he := HPd.out.heldC Ae; have y10 := (pbox_c0 he.1).2.1; have f10 := (pbox_c0 he.1).2.2 1; have HPe := hide (HPd.out.appC Ae Re); obtain ⟨-, ce, fe⟩ := HPe.out.r.bad_cell; clear he Re Ae)
         go_roundw
         case rel => exact ⟨k + 1, rr, yh, bo, cn + 1, c2, C ++ [⟨(rr : Int), yl, yh⟩], sc, HK1.out.1, by simp, rfl, rfl, HK1.out.2.1, HPe.out, HYes.out HLf.out⟩
         case measure => have := HK1.out.2.2; simp [intOf]; omega
     ·have hlti : ¬ ((k : Nat) : Int) < (M : Int) := by omega
      have HE : Hid (∃ co cn cc C st4, cn ≤ 16000000015 ∧ SP w wr g q st4 (b1 + 1) vo vn vc V co cn cc C [(b1, pstO)] ∧ ClJ (q.n : Int) st ⟨V, C⟩ st4) := ⟨co, cn, cc, C, some R1, by omega, HZ.out.1, by
       have h := HZ.out.2
       obtain rfl : k = M := by omega
       exact h.done⟩
      go_wp2_with fail
      go_meet
      case rel => exact HE
  case rest =>
   rename World => wy
   obtain ⟨co, cn, cc, C, st4, hcn, hP7, hJ7⟩ := hcut.out
   have HP7 := hide hP7
   have HJ7 := hide hJ7
   have lP := run_ldP (PBox.at (p := ⟨vo, vn, vc, co, cn, cc, ⟨V, C⟩⟩) hP7.box)
   have HPS := hide (hP7.pn hvn hcn).src
   clear hcut hP7 hJ7 HP6 HC0
   go_wp2_with fail
   refine (refIsNorm_any ⟨vo, vn, vc, co, cn, cc, ⟨V, C⟩⟩ wy HPS.out).mono ?_
   rintro e W8 ⟨b, rfl, hb, b8⟩
   have HP8 := hide (HP7.out.below b8)
   have HI : Hid (BIf b (InForm ⟨V, C⟩)) := hb
   clear lP HPS HP7 b8 hb
   have HR : Hid (∀ V8 st8, SP w V8 g q st8 (b1 + 1) vo vn vc V co cn cc C [(b1, pstO)] → ((st8 = none ∧ ∀ R P R', st = some R → rdPast R = some (P, R') → ¬ InForm P) ∨ ∃ R R', st = some R ∧ st8 = some R' ∧ rdPast R = some (⟨V, C⟩, R') ∧ InForm ⟨V, C⟩) → (ldP (.pointer (some ⟨b1 + 1, 0, none⟩))).run Tryz.prog V8 = .ok (PV ⟨vo, vn, vc, co, cn, cc, ⟨V, C⟩⟩) V8 ∧ (stP (.pointer (some ⟨b1, 0, none⟩)) (PV ⟨vo, vn, vc, co, cn, cc, ⟨V, C⟩⟩)).run Tryz.prog V8 = .ok () (V8.setRow b1 (PC ⟨vo, vn, vc, co, cn, cc, ⟨V, C⟩⟩)) ∧ PBox (V8.setRow b1 (PC ⟨vo, vn, vc, co, cn, cc, ⟨V, C⟩⟩)) b1 ⟨vo, vn, vc, co, cn, cc, ⟨V, C⟩⟩ ∧ PaS w (V8.setRow b1 (PC ⟨vo, vn, vc, co, cn, cc, ⟨V, C⟩⟩)) (.returned (PV ⟨vo, vn, vc, co, cn, cc, ⟨V, C⟩⟩)) g q st) := fun V8 st8 hV hc => by
    have k2 := (hV.keep (b1, pstO) List.mem_cons_self).1
    have sP := run_stP (p := pv0) (p' := ⟨vo, vn, vc, co, cn, cc, ⟨V, C⟩⟩) k2
    have hBX : PBox (V8.setRow b1 (PC ⟨vo, vn, vc, co, cn, cc, ⟨V, C⟩⟩)) b1 ⟨vo, vn, vc, co, cn, cc, ⟨V, C⟩⟩ := setRow_heap V8 b1 _ _ _ _ k2
    have K13 : U.Kg V8 (V8.setRow b1 (PC ⟨vo, vn, vc, co, cn, cc, ⟨V, C⟩⟩)) b1 := ⟨rfl, rfl, rfl, by simp, fun j _ hn => setRow_other V8 b1 j _ hn⟩
    have P13 := hV.turn (F' := []) List.mem_cons_self K13 hBX (fun x hx => by cases hx)
    exact ⟨run_ldP (PBox.at (p := ⟨vo, vn, vc, co, cn, cc, ⟨V, C⟩⟩) hV.box), sP, hBX, _, st8, rfl, P13.pn hvn hcn, P13.r, P13.k, hc⟩
   have HLs : Hid (∀ R, st = some R → lsPast (q.n : Int) R = rdPast R) := fun R e => lsPast_eq (HOc.out R e).1 (HOc.out R e).2 (by have := HQ.out; unfold U.mxN; omega)
   cases b with
   | true =>
    have hIn : InForm ⟨V, C⟩ := HI.out.1 rfl
    obtain ⟨l8, t8, x8, hF⟩ := HR.out _ _ HP8.out (by
     cases st4 with
     | none => exact .inl ⟨rfl, fun R P R' e e2 => by rw [← HLs.out R e, HJ7.out R e] at e2; cases e2⟩
     | some R1 =>
      obtain ⟨R0, e, h⟩ := HJ7.out
      exact .inr ⟨R0, R1, e, rfl, by rw [← HLs.out R0 e]; exact h, hIn⟩)
    have HF := hide hF
    have HX8 := hide x8
    clear hF x8 hIn
    go_wp2_with fail
    exact bodyPost_ret (resP Tryz.results71 rfl HX8.out) rfl HF.out
   | false =>
    have hIn : ¬ InForm ⟨V, C⟩ := fun h => by have := HI.out.2 h; cases this
    obtain ⟨-, c2, fz⟩ := HP8.out.r.bad_cell
    obtain ⟨r9, k9⟩ := HP8.out.r.spoil
    have hP9 := HP8.out.num k9 r9
    obtain ⟨l8, t8, x8, hF⟩ := HR.out _ _ hP9 (by
     refine .inl ⟨rfl, fun R P R' e e2 hi => ?_⟩
     rw [← HLs.out R e] at e2
     cases st4 with
     | none => rw [HJ7.out R e] at e2; cases e2
     | some R1 =>
      obtain ⟨R0, e0, h⟩ := HJ7.out
      rw [e] at e0
      obtain rfl := Option.some.inj e0
      rw [h] at e2
      simp only [Option.some.injEq, Prod.mk.injEq] at e2
      obtain ⟨rfl, -⟩ := e2
      exact hIn hi)
    have HF := hide hF
    have HX8 := hide x8
    clear hF x8 hIn r9 k9 hP9
    go_wp2_with fail
    exact bodyPost_ret (resP Tryz.results71 rfl HX8.out) rfl HF.out
end Go.Proofs.YtphohmoibnoeaaaGreat
namespace Go.Proofs.YtphohmoibnoeaaaGreat
open Go.RowKit
attribute [local go_sem ↓] ldP_eq stP_eq
attribute [local go_sem] zero_PC cells_PV PC_size
variable {w w' w2 W W' : World} {g gv gr : Nat} {Z : List Int}

def stSc (p v : Value) : Sem Unit := Instr.storeAt 113 p v
theorem stSc_eq (p v : Value) : Instr.storeAt 113 p v = stSc p v := rfl
theorem sizeSc : (Tryz.prog.info? 113).map (·.size) = some 3 := by kernel_rfl
theorem ScC_one (q : Sq) (a : Nat) (b : Bool) : ∀ v ∈ (ScC q a b).toList, v.oneCell' = true := by
 intro v hv
 simp [ScC] at hv
 rcases hv with rfl | rfl | rfl <;> rfl
theorem run_stSc {q q' : Sq} {a a' : Nat} {b b' : Bool} (A : w.heap[g]? = some (.cells (ScC q a b) 113 (0, 0))) : (stSc (.pointer (some ⟨g, 0, none⟩)) (.agg (ScC q' a' b'))).run Tryz.prog w = .ok () (w.setRow g (ScC q' a' b')) := by
 unfold stSc
 have h := run_storeCells_from (P := Tryz.prog) g 113 (ScC q' a' b').toList 0 (ScC q a b) w A (by simp [ScC]) (ScC_one q' a' b')
 have hc : (Value.agg (ScC q' a' b')).cells = ScC q' a' b' := by simp [Value.cells]
 have hz : (ScC q' a' b').size = 3 := rfl
 cases hq : Tryz.prog.info? 113 with
 | none => have := sizeSc; simp [hq] at this
 | some x =>
  have hs : x.size = 3 := by have := sizeSc; simpa [hq] using this
  simp only [Instr.storeAt, Instr.sureAddr, Sem.run_bind, Sem.run_pure, Result.andThen, storeVar, sizeOf, typeInfo, hc, hz]
  simp at h
  simp [h, hq, hs]
theorem madeSc (w : World) (ro : Option Addr) (rn rc : Nat) (Z : List Int) (S : U.Src w ro rn rc Z) (hc : rn ≤ rc) (g : Nat) (hg : w.heap.size = g) : ∃ w' : World, (stSc (.pointer (some ⟨g, 0, none⟩)) (.agg #[.slice ro rn rc, .int .i64 0, .bool false])).run Tryz.prog (w.alloc (.cells #[.slice none 0 0, .int .i64 0, .bool false] 113)) = .ok () w' ∧ SB w' g ⟨ro, rn, rc, Z⟩ (some Z) ∧ Below w.heap.size w w' ∧ w'.heap.size = w.heap.size + 1 := by
 subst hg
 have x1 : (w.alloc (.cells (ScC ⟨none, 0, 0, []⟩ 0 false) 113)).heap[w.heap.size]? = some (.cells (ScC ⟨none, 0, 0, []⟩ 0 false) 113 (0, 0)) := heap_alloc_new w _
 have hb : Below w.heap.size w ((w.alloc (.cells (ScC ⟨none, 0, 0, []⟩ 0 false) 113)).setRow w.heap.size (ScC ⟨ro, rn, rc, Z⟩ 0 false)) := below_setRow (below_new w _) (Nat.le_refl _)
 refine ⟨_, run_stSc (q' := ⟨ro, rn, rc, Z⟩) (a' := 0) (b' := false) x1, ⟨0, false, Nat.zero_le _, setRow_heap _ _ _ _ _ _ x1, S.below hb, ?_, hc, rfl, rfl⟩, hb, by simp [World.setRow]⟩
 intro h0 e
 cases ro with
 | none => cases e
 | some ad =>
  have e : ad.block = w.heap.size := Option.some.inj e
  have h0 : rn ≠ 0 := h0
  have h1 := World.block_lt_of_cell? _ _ (S.2.2.1 ad rfl 0 (by omega))
  rw [U.block_of_add] at h1
  omega
theorem src_blk {ro : Option Addr} {rn rc : Nat} (S : U.Src w ro rn rc Z) (h0 : rn ≠ 0) : ∀ k, U.blk ro = some k → k < w.heap.size := by
 intro k e
 cases ro with
 | none => cases e
 | some ad =>
  have e : ad.block = k := Option.some.inj e
  have h1 := World.block_lt_of_cell? _ _ (S.2.2.1 ad rfl 0 (by omega))
  rw [U.block_of_add] at h1
  omega
attribute [local go_sem ↓] stSc_eq
theorem SB.at_cell {q : Sq} {R : List Int} (h : SB W g q (some R)) : ∃ a : Nat, W.cell? ⟨g, 1, none⟩ = some (.int .i64 (a : Int)) ∧ W.cell? ⟨g, 2, none⟩ = some (.bool false) ∧ (a = q.n ↔ R = []) := by
 obtain ⟨a, b, hG, rfl, hR⟩ := h.sg
 obtain ⟨c0, c1, c2, fz⟩ := sc_cells hG.box
 refine ⟨a, c1, c2, ?_⟩
 have hl := hG.src.1
 have hle := hG.le
 rw [hR]
 constructor
 ·intro e
  exact List.drop_eq_nil_of_le (by omega)
 ·intro e
  have := List.drop_eq_nil_iff.1 e
  omega
set_option maxRecDepth 100000 in
set_option maxHeartbeats 3200000 in
theorem rgetP9_any (ro : Option Addr) (rn rc : Nat) (Z : List Int) (w : World) (S : U.Src w ro rn rc Z) (hcap : rn ≤ rc) (hz : rn ≤ 4000000000) : Calls Tryz.prog 41 #[.slice ro rn rc] w fun r w' => GpA w w' Z r := by
 have b1 := below_new w (.cells (PC pv0) 25)
 have x1 := pbox_new w pv0
 have s1 := World.size_alloc w (.cells (PC pv0) 25)
 obtain ⟨w1, hw1⟩ : ∃ w1, w.alloc (.cells (PC pv0) 25) = w1 := ⟨_, rfl⟩
 obtain ⟨g1, hg1⟩ : ∃ g1, w.heap.size = g1 := ⟨_, rfl⟩
 rw [hw1] at b1 x1 s1
 rw [hg1] at x1 s1
 obtain ⟨w2, hst2, B2, b2, s2⟩ := madeSc w1 ro rn rc Z (S.below b1) hcap (g1 + 1) s1
 have HC := hide (spast_any B2 (fun h0 k e => Nat.lt_of_lt_of_le (src_blk (S.below b1) h0 k e) b2.size) hz)
 have HM : Hid (PBox w2 g1 pv0 ∧ Below w.heap.size w w2 ∧ w.heap.size = g1 ∧ U.Oc Z ∧ g1 < w2.heap.size) := ⟨x1.below b2, b1.trans (b2.mono b1.size), hg1, S.2.2.2, by rw [s2, s1]; omega⟩
 clear b1 x1 B2 b2 S hcap hz s2
 go_enter Tryz.func41, Tryz.ntmps41
 go_wp2_with fail
 clear hw1 hst2 s1 hg1
 refine HC.out.mono ?_
 rintro r w3 ⟨p, st', rfl, hN, hB, hK, hcase⟩
 obtain ⟨g5, hg5⟩ : ∃ g5, w3.heap.size = g5 := ⟨_, rfl⟩
 obtain ⟨w4, hst4, B4, b4, s4⟩ := madeP w3 p g5 hg5
 have M3 : PBox w3 g1 pv0 := (hK.block _ HM.out.1.lt (by omega)).trans HM.out.1
 have b3 : Below w.heap.size w w3 := ⟨hK.os.trans HM.out.2.1.os, hK.tape.trans HM.out.2.1.tape, hK.output.trans HM.out.2.1.output, Nat.le_trans HM.out.2.1.size hK.size, fun k hk => (hK.block k (Nat.lt_of_lt_of_le hk HM.out.2.1.size) (by have := HM.out.2.2.1; omega)).trans (HM.out.2.1.block k hk)⟩
 have HM4 := hide (M3.below b4)
 have HB4 := hide (b3.trans (b4.mono b3.size))
 have HN4 := hide (hN.below b4)
 have HX4 := hide B4
 have hB4 := hB.below b4
 have HCs := hide hcase
 have HG : Hid (w.heap.size = g1 ∧ g1 < w2.heap.size ∧ w2.heap.size ≤ g5) := ⟨HM.out.2.2.1, HM.out.2.2.2.2, by have := hK.size; omega⟩
 clear hN hB hK hcase M3 b3 b4 B4 s4
 have t6 : ∀ p' : Pv, (stP (.pointer (some ⟨g1, 0, none⟩)) (PV p')).run Tryz.prog w4 = .ok () (w4.setRow g1 (PC p')) := fun p' => run_stP (p' := p') HM4.out
 have HBad : Hid ((∀ P, InForm P → rdPast Z ≠ some (P, [])) → GpA w (w4.setRow g1 (PC pv0)) Z (.returned (.tuple #[PV pv0, .int .i64 8]))) := fun h => GpA.bad (below_setRow HB4.out (by have := HG.out; omega)) h
 have HX0 : Hid (PBox (w4.setRow g1 (PC pv0)) g1 pv0) := setRow_heap _ _ _ _ _ _ HM4.out
 have t60 : (stP (.pointer (some ⟨g1, 0, none⟩)) (.agg #[.slice none 0 0, .slice none 0 0])).run Tryz.prog w4 = .ok () (w4.setRow g1 (PC pv0)) := t6 pv0
 cases st' with
 | none =>
  obtain ⟨-, c2, -⟩ := hB4.bad_cell
  have c2 : w4.cell? ⟨g1 + 1, 2, none⟩ = some (.bool true) := c2
  have HE := hide (HBad.out (fun P hP e => by
   rcases HCs.out with ⟨-, h⟩ | ⟨R, R', -, h, -⟩
   ·exact h Z P [] rfl e hP
   ·cases h))
  have t61 := t6 pv0
  clear hB4 t6
  go_wp2_with fail
  clear hst4 hg5
  refine bodyPost_ret (res2P rfl rfl rfl HX0.out) rfl ?_
  exact HE.out
 | some R =>
  obtain ⟨a, c1, c2, ha⟩ := hB4.at_cell
  obtain ⟨hrd, hIn⟩ : rdPast Z = some (p.P, R) ∧ InForm p.P := by
   rcases HCs.out with ⟨h, -⟩ | ⟨R0, R', h0, h1, h2, h3⟩
   ·cases h
   ·obtain rfl := Option.some.inj h0
    obtain rfl := Option.some.inj h1
    exact ⟨h2, h3⟩
  by_cases hR : R = []
  ·subst hR
   obtain rfl : a = rn := ha.2 rfl
   have hne : ((a : Int) != (a : Int)) = false := by simp
   have l5 := run_ldP HX4.out.at
   have t7 := t6 p
   have HE : Hid (GpA w (w4.setRow g1 (PC p)) Z (.returned (.tuple #[PV p, .int .i64 0]))) := by
    have e1 := (rdPast_of HM.out.2.2.2.1 hrd).1
    rw [List.append_nil] at e1
    have h3 := HG.out
    exact ⟨below_setRow HB4.out (by omega), .inl ⟨p, hIn, e1, rfl, (HN4.out.keep (fun k h1 h2 => setRow_other _ _ _ _ (by omega))).mono (by omega)⟩⟩
   have HX : Hid (PBox (w4.setRow g1 (PC p)) g1 p) := setRow_heap _ _ _ _ _ _ HM4.out
   clear hB4 t6 t60 hrd hIn ha
   go_wp2_with fail
   clear hst4 hg5
   refine bodyPost_ret (res2P rfl rfl rfl HX.out) rfl ?_
   exact HE.out
  ·have hne : ((a : Int) != (rn : Int)) = true := by
    rw [bne_iff_ne]
    intro e
    exact hR (ha.1 (by show a = rn; omega))
   have HE := hide (HBad.out (fun P hP e => by
    rw [hrd] at e
    simp only [Option.some.injEq, Prod.mk.injEq] at e
    exact hR e.2))
   have t61 := t6 pv0
   clear hB4 t6 hrd hIn ha hR
   go_wp2_with fail
   clear hst4 hg5
   refine bodyPost_ret (res2P rfl rfl rfl HX0.out) rfl ?_
   exact HE.out
end Go.Proofs.YtphohmoibnoeaaaGreat
