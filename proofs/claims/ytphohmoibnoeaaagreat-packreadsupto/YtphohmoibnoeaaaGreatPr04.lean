/- IGe IGr -/
import Derived.Test.YtphohmoibnoeaaaGreatPr02
import Derived.Test.YtphohmoibnoeaaaGreatPb33
import Derived.Test.YtphohmoibnoeaaaGreatPr03
namespace Go.Proofs.YtphohmoibnoeaaaGreat
open Go.RowKit
variable {w w' w2 W W' W2 w0 : World} {g : Nat} {q : Sq} {st : Option (List Int)} {Z : List Int}

structure SE (w0 W : World) (g : Nat) (q : Sq) (st : Option (List Int)) (bo : Option Addr) (n cc : Nat) (L : List K.En) : Prop where
 r : SB W g q st
 gl : g < w0.heap.size
 bl : q.n ≠ 0 → ∀ k, U.blk q.o = some k → k < w0.heap.size
 k : U.Kg w0 W g
 v : E.BR W bo n cc L
 vb : ∀ k, U.blk bo = some k → w0.heap.size ≤ k
variable {bo bo2 : Option Addr} {n cc n2 c2 : Nat} {L L2 : List K.En}
theorem SE.num (h : SE w0 W g q st bo n cc L) (K : U.Kg W W' g) {st' : Option (List Int)} (R : SB W' g q st') : SE w0 W' g q st' bo n cc L :=
 ⟨R, h.gl, h.bl, h.k.trans K, h.v.keep fun k e => K.block k (h.v.lt k e) (by have := h.vb k e; have := h.gl; omega), h.vb⟩
theorem SE.below (h : SE w0 W g q st bo n cc L) (b : Below W.heap.size W W') : SE w0 W' g q st bo n cc L := h.num (U.Kg.of_below b) (h.r.below b)
theorem SE.app (h : SE w0 W g q st bo n cc L) (A : U.Ap W W2 bo bo2) (h2 : E.BR W2 bo2 n2 c2 L2) : SE w0 W2 g q st bo2 n2 c2 L2 := by
 have hg := h.gl
 have hs := h.k.size
 have e1 : ∀ k, k < w0.heap.size → W2.heap[k]? = W.heap[k]? := fun k hk => A.grown.block k (by omega) (fun e => by have := h.vb k e.symm; omega)
 refine ⟨h.r.keep (e1 g hg) (fun hz k e => e1 k (h.bl hz k e)), h.gl, h.bl, ⟨A.grown.os.trans h.k.os, A.grown.tape.trans h.k.tape, A.grown.output.trans h.k.output, Nat.le_trans hs A.grown.size, fun k hk hn => (e1 k hk).trans (h.k.block k hk hn)⟩, h2, fun k e => ?_⟩
 rcases A.lies with x | ⟨j, x, hj⟩
 ·exact h.vb k (by rw [← x]; exact e)
 ·rw [x] at e
  have := Option.some.inj e
  omega
def EnF (Z : List Int) (n k r : Nat) (nm : Int) (C : List K.En) (R : List Int) : Prop :=
 ∃ T, stEn (fun _ => 0) 0 C = (T, (r : Int)) ∧ LsE (r : Int) nm T ∧ Z = U.numB n ++ (entB (fun _ => 0) 0 C ++ R) ∧ U.Oc R ∧ (∀ j, 0 ≤ T j ∧ T j ≤ 1000000000) ∧ r ≤ 15 ∧ C.length = k ∧ ∀ e ∈ C, e.sku.size ≤ 24
def EnB (Z : List Int) (n k : Nat) (C : List K.En) (st : Option (List Int)) : Prop := ∀ L0, K.okN L0 L0.length = true → Z = entsB L0 → ∃ R, st = some R ∧ n = L0.length ∧ C = L0.take k
def EnI (Z : List Int) (n k r : Nat) (nm : Int) (C : List K.En) (st : Option (List Int)) : Prop := (∀ R, st = some R → EnF Z n k r nm C R) ∧ EnB Z n k C st
theorem ents_short {L0 : List K.En} (h : K.okN L0 L0.length = true) (hz : Z.length ≤ 4000000000) (e : Z = entsB L0) : L0.length ≤ 4000000000 := by
 have h1 := entB_len L0 (fun _ => 0) 0 (ok_eok h).1 (ok_eok h).2
 rw [e] at hz
 unfold entsB at hz
 rw [List.length_append] at hz
 omega
theorem en_start {N : Nat} {st1 : Option (List Int)} (hZ : U.Oc Z) (hz : Z.length ≤ 4000000000) (h : sNum 4000000000 (some Z) = (N, st1)) : EnI Z N 0 0 0 [] st1 := by
 refine ⟨fun R e => ?_, fun L0 hL e => ?_⟩
 ·subst e
  obtain ⟨R0, e0, hp⟩ := sNum_some h
  obtain rfl := Option.some.inj e0
  obtain ⟨e1, -, o1, -⟩ := U.pNum_of hZ hp
  exact ⟨fun _ => 0, rfl, lsE_start, e1, o1, fun _ => ⟨Int.le_refl 0, by show (0 : Int) ≤ 1000000000; decide⟩, by decide, rfl, fun e he => by cases he⟩
 ·have h1 := ents_short hL hz e
  have h2 : U.pNum 4000000000 Z = some (L0.length, entB (fun _ => 0) 0 L0) := by
   rw [e]
   exact U.pNum_to _ (by omega) (by omega)
  rw [sNum_ok h2] at h
  simp only [Prod.mk.injEq] at h
  exact ⟨_, h.2.symm, h.1.symm, by simp⟩
theorem rd_ent {T : Nat → Int} {r a b x : Nat} {e : K.En} {t : List K.En} {R : List Int} {s : ByteArray} {sa sb sc sd : Option (List Int)} (hok : EOk T (r : Int) (e :: t)) (hT : ∀ j, 0 ≤ T j) (hR : R = entB T (r : Int) (e :: t)) (ha : sNum 16 (some R) = (a, sa)) (hb : sNum 1000000000 sa = (b, sb)) (hs : sTx 24 sb = (s, sc)) (hx : sNum 1000000 sc = (x, sd)) :
  sd = some (entB (upd T e.rep.toNat e.num) e.rep t) ∧ ((r + a : Nat) : Int) = e.rep ∧ T (r + a) + ((b : Int) + 1) = e.num ∧ s = e.sku ∧ (x : Int) + 1 = e.qty := by
 obtain ⟨⟨h1, h2, h3⟩, ⟨h4, h5⟩, h6, ⟨h7, h8⟩, -⟩ := hok
 have hTs := hT e.rep.toNat
 have eq : R = U.numB (e.rep - (r : Int)).toNat ++ (U.numB (e.num - (T e.rep.toNat + 1)).toNat ++ (txB e.sku ++ (U.numB (e.qty - 1).toNat ++ entB (upd T e.rep.toNat e.num) e.rep t))) := by
  rw [hR]
  simp only [entB, nB]
 have p1 : U.pNum 16 R = some ((e.rep - (r : Int)).toNat, U.numB (e.num - (T e.rep.toNat + 1)).toNat ++ (txB e.sku ++ (U.numB (e.qty - 1).toNat ++ entB (upd T e.rep.toNat e.num) e.rep t))) := by rw [eq]; exact U.pNum_to _ (by omega) (by omega)
 rw [sNum_ok p1] at ha
 simp only [Prod.mk.injEq] at ha
 obtain ⟨rfl, rfl⟩ := ha
 rw [sNum_ok (U.pNum_to _ (by omega) (by omega))] at hb
 simp only [Prod.mk.injEq] at hb
 obtain ⟨rfl, rfl⟩ := hb
 rw [sTx_ok (pTx_to _ (by omega) (by omega))] at hs
 simp only [Prod.mk.injEq] at hs
 obtain ⟨rfl, rfl⟩ := hs
 rw [sNum_ok (U.pNum_to _ (by omega) (by omega))] at hx
 simp only [Prod.mk.injEq] at hx
 obtain ⟨rfl, rfl⟩ := hx
 have e1 : r + (e.rep - (r : Int)).toNat = e.rep.toNat := by omega
 refine ⟨rfl, by omega, ?_, rfl, by omega⟩
 rw [e1]
 omega
theorem sTx_some {most : Int} {s : ByteArray} {R1 : List Int} (h : sTx most st = (s, some R1)) : ∃ R, st = some R ∧ pTx most R = some (s, R1) := by
 cases st with
 | none => cases h
 | some R =>
  cases hp : pTx most R with
  | none => rw [sTx_bad hp] at h; cases h
  | some y =>
   obtain ⟨s', R'⟩ := y
   rw [sTx_ok hp] at h
   simp only [Prod.mk.injEq, Option.some.injEq] at h
   obtain ⟨rfl, rfl⟩ := h
   exact ⟨R, rfl, hp⟩
theorem sTx_len {most : Nat} (st : Option (List Int)) (hO : ∀ R, st = some R → U.Oc R) : (sTx (most : Int) st).1.size ≤ most := by
 cases st with
 | none => exact Nat.zero_le _
 | some R =>
  cases hp : pTx (most : Int) R with
  | none => rw [sTx_bad hp]; exact Nat.zero_le _
  | some y =>
   obtain ⟨s, R'⟩ := y
   rw [sTx_ok hp]
   have := (pTx_of (hO R rfl) hp).2.1
   show s.size ≤ most
   omega
theorem EnI.next {N k r a b x : Nat} {nm : Int} {C : List K.En} {R : List Int} {s : ByteArray} {sa sb sc sd : Option (List Int)} (h : EnI Z N k r nm C (some R)) (hk : k < N) (ha : sNum 16 (some R) = (a, sa)) (hb : sNum 1000000000 sa = (b, sb)) (hs : sTx 24 sb = (s, sc)) (hx : sNum 1000000 sc = (x, sd)) (h24 : s.size ≤ 24) :
  ∃ y : Int, y = (if 0 < a then 0 else nm) ∧ (0 ≤ y ∧ y ≤ 1000000000) ∧ (¬ (r + a ≤ 15 ∧ y + ((b : Int) + 1) ≤ 1000000000) → EnI Z N (k + 1) (r + a) (y + ((b : Int) + 1)) (C ++ [⟨((r + a : Nat) : Int), y + ((b : Int) + 1), s, (x : Int) + 1⟩]) none) ∧ (r + a ≤ 15 ∧ y + ((b : Int) + 1) ≤ 1000000000 → EnI Z N (k + 1) (r + a) (y + ((b : Int) + 1)) (C ++ [⟨((r + a : Nat) : Int), y + ((b : Int) + 1), s, (x : Int) + 1⟩]) sd) := by
 obtain ⟨T, hst, hLs, hZ, hO, hT, h15, hC, hsk⟩ := h.1 R rfl
 have eT := hLs (r + a) (by omega)
 have e2 : (((r + a : Nat) : Int) = (r : Int)) ↔ ¬ 0 < a := by omega
 have eT2 : T (r + a) = if 0 < a then 0 else nm := by
  rw [eT]
  by_cases h0 : 0 < a
  ·rw [if_neg (by omega), if_pos h0]
  ·rw [if_pos (by omega), if_neg h0]
 have hTa := hT (r + a)
 -- what the entries in form would tell
 have hB : ∀ L0, K.okN L0 L0.length = true → Z = entsB L0 → ∃ e t, L0.take (k + 1) = C ++ [e] ∧ N = L0.length ∧ sd = some (entB (upd T e.rep.toNat e.num) e.rep t) ∧ ((r + a : Nat) : Int) = e.rep ∧ T (r + a) + ((b : Int) + 1) = e.num ∧ s = e.sku ∧ (x : Int) + 1 = e.qty ∧ e.rep ≤ 15 ∧ e.num ≤ 1000000000 := fun L0 hL e0 => by
  obtain ⟨R', eR, hN, hCt⟩ := h.2 L0 hL e0
  obtain rfl := Option.some.inj eR
  have hkl : k < L0.length := by omega
  have hd : L0.drop k = L0.getD k K.en0 :: L0.drop (k + 1) := by rw [List.drop_eq_getElem_cons hkl, List.getD_eq_getElem?_getD, List.getElem?_eq_getElem hkl]; rfl
  have hE := (ok_eok hL).1
  have hsp : L0 = C ++ (L0.getD k K.en0 :: L0.drop (k + 1)) := by rw [hCt, ← hd, List.take_append_drop]
  rw [hsp] at hE
  obtain ⟨-, hE2⟩ := eOk_append _ _ _ _ hE
  rw [hst] at hE2
  have hR2 : R = entB T (r : Int) (L0.getD k K.en0 :: L0.drop (k + 1)) := by
   have e3 := e0
   unfold entsB at e3
   rw [hZ, hN] at e3
   have e4 := List.append_cancel_left e3
   rw [show entB (fun _ => 0) 0 L0 = entB (fun _ => 0) 0 C ++ entB T (r : Int) (L0.getD k K.en0 :: L0.drop (k + 1)) by conv => lhs; rw [hsp, entB_append, hst]] at e4
   exact List.append_cancel_left e4
  obtain ⟨d1, d2, d3, d4, d5⟩ := rd_ent hE2 (fun j => (hT j).1) hR2 ha hb hs hx
  exact ⟨_, _, by rw [take_snocE L0 k hkl, ← hCt], hN, d1, d2, d3, d4, d5, hE2.1.2.2, hE2.2.1.2⟩
 refine ⟨T (r + a), eT2, hTa, fun hno => ⟨fun R' e => (by cases e), fun L0 hL e0 => ?_⟩, fun hyes => ⟨fun R' e => ?_, fun L0 hL e0 => ?_⟩⟩
 ·obtain ⟨e, t, -, -, -, d2, d3, -, -, d6, d7⟩ := hB L0 hL e0
  exact absurd ⟨by omega, by omega⟩ hno
 ·subst e
  obtain ⟨R3, rfl, p4⟩ := sNum_some hx
  obtain ⟨R2, rfl, p3⟩ := sTx_some hs
  obtain ⟨R1, rfl, p2⟩ := sNum_some hb
  obtain ⟨R0, e0, p1⟩ := sNum_some ha
  obtain rfl := Option.some.inj e0
  obtain ⟨e1, -, o1, -⟩ := U.pNum_of hO p1
  obtain ⟨e2', -, o2, -⟩ := U.pNum_of o1 p2
  obtain ⟨e3, -, o3⟩ := pTx_of o2 p3
  obtain ⟨e4, -, o4, -⟩ := U.pNum_of o3 p4
  have hn : (((r + a : Nat) : Int)).toNat = r + a := by omega
  refine ⟨upd T (r + a) (T (r + a) + ((b : Int) + 1)), ?_, hLs.next (r + a) (by omega) _, ?_, o4, fun j => ?_, hyes.1, by simp [hC], fun e he => ?_⟩
  ·rw [stEn_append, hst]
   simp only [stEn, hn]
  ·rw [hZ, entB_append, hst]
   simp only [entB, hn, List.append_assoc, List.append_nil]
   rw [show nB (((r + a : Nat) : Int) - (r : Int)) = U.numB a by unfold nB; congr 1; omega, show nB (T (r + a) + ((b : Int) + 1) - (T (r + a) + 1)) = U.numB b by unfold nB; congr 1; omega, show nB ((x : Int) + 1 - 1) = U.numB x by unfold nB; congr 1; omega, ← e4, ← e3, ← e2', ← e1]
  ·unfold upd
   split
   ·exact ⟨by omega, hyes.2⟩
   ·exact hT j
  ·rcases List.mem_append.1 he with he | he
   ·exact hsk e he
   ·obtain rfl := List.mem_singleton.1 he
    exact h24
 ·obtain ⟨e, t, d0, dN, d1, d2, d3, d4, d5, -, -⟩ := hB L0 hL e0
  refine ⟨_, d1, dN, ?_⟩
  rw [d0, d2, d3, d4, d5]
def EnJ (Z : List Int) (N : Nat) (C : List K.En) (st : Option (List Int)) : Prop :=
 (∀ R, st = some R → Z = U.numB N ++ (entB (fun _ => 0) 0 C ++ R) ∧ C.length = N ∧ ∀ e ∈ C, e.sku.size ≤ 24) ∧ ∀ L0, K.okN L0 L0.length = true → Z = entsB L0 → st = some [] ∧ C = L0
theorem EnI.done {N k r : Nat} {nm : Int} {C : List K.En} (h : EnI Z N k r nm C st) (hk : st = none ∨ k = N) : EnJ Z N C st := by
 rcases hk with rfl | rfl
 ·exact ⟨fun R e => (by cases e), fun L0 hL e0 => by obtain ⟨R, e, -⟩ := h.2 L0 hL e0; cases e⟩
 ·refine ⟨fun R e => ?_, fun L0 hL e0 => ?_⟩
  ·obtain ⟨T, -, -, hZ, -, -, -, hC, hs⟩ := h.1 R e
   exact ⟨hZ, hC, hs⟩
  ·obtain ⟨R, e, hN, hC⟩ := h.2 L0 hL e0
   obtain ⟨T, -, -, hZ, -⟩ := h.1 R e
   rw [hN, List.take_length] at hC
   refine ⟨?_, hC⟩
   rw [e0, hC] at hZ
   unfold entsB at hZ
   rw [hN] at hZ
   have e4 := List.append_cancel_left hZ
   have e5 := congrArg List.length e4
   rw [List.length_append] at e5
   rw [e]
   congr 1
   exact List.eq_nil_of_length_eq_zero (by omega)
theorem SE.oc {bo : Option Addr} {n cc : Nat} {L : List K.En} (h : SE w0 W g q st bo n cc L) : ∀ R, st = some R → U.Oc R := fun R e => by subst e; exact h.r.oc.1
attribute [local go_sem ↓] stSc_eq
set_option maxRecDepth 100000 in
set_option maxHeartbeats 12800000 in
theorem rgetE9_any (ro : Option Addr) (rn rc : Nat) (Z : List Int) (w : World) (S : U.Src w ro rn rc Z) (hcap : rn ≤ rc) (hz : rn ≤ 4000000000) : Calls Tryz.prog 42 #[.slice ro rn rc] w fun r w' => GpE w w' Z r := by
 obtain ⟨g1, hg1⟩ : ∃ g1, w.heap.size = g1 := ⟨_, rfl⟩
 obtain ⟨w2, hst2, B2, b2, s2⟩ := madeSc w ro rn rc Z S hcap g1 hg1
 have P2 : SE w2 w2 g1 ⟨ro, rn, rc, Z⟩ (some Z) none 0 0 [] := ⟨B2, B2.lt, fun h0 k e => Nat.lt_of_lt_of_le (src_blk S h0 k e) b2.size, U.Kg.refl _ _, E.BR.nil _, fun k e => by cases e⟩
 have HP2 := hide P2
 have HM : Hid (Below w.heap.size w w2 ∧ w.heap.size = g1 ∧ U.Oc Z ∧ Z.length = rn ∧ g1 < w2.heap.size) := ⟨b2, hg1, S.2.2.2, S.1, by rw [s2, hg1]; omega⟩
 have HQ := hide hz
 have HBW : Hid (∀ V st bo n cc L, SE w2 V g1 ⟨ro, rn, rc, Z⟩ st bo n cc L → Below w.heap.size w V) := fun V st bo n cc L h => by
  have hk := h.k
  have hb := HM.out.1
  exact ⟨hk.os.trans hb.os, hk.tape.trans hb.tape, hk.output.trans hb.output, Nat.le_trans hb.size hk.size, fun k hk1 => (hk.block k (Nat.lt_of_lt_of_le hk1 hb.size) (by have := HM.out.2.1; omega)).trans (hb.block k hk1)⟩
 clear B2 b2 S hcap hz s2 P2
 go_enter Tryz.func42, Tryz.ntmps42
 go_wp2_with fail
 clear hst2 hg1
 refine (snum_any HP2.out.r 4000000000 (by decide) (by have := HQ.out; show rn ≤ _; omega)).mono ?_
 rintro e W4 ⟨rfl, R4, K4⟩
 have hN0 := sNum_le (most := 4000000000) (by decide) (some Z)
 obtain ⟨N, st1, h1⟩ : ∃ N st1, sNum 4000000000 (some Z) = (N, st1) := ⟨_, _, rfl⟩
 rw [h1] at R4 hN0 ⊢
 simp only at R4 hN0 ⊢
 have hN : N ≤ 4000000000 := by omega
 have HP4 := hide (HP2.out.num K4 R4)
 have HV0 := hide (en_start HM.out.2.2.1 (by have := HM.out.2.2.2.1; have := HQ.out; omega) h1)
 clear R4 K4 HP2 h1 hN0
 go_upto_block 0 with fail
 go_cut [5, 7, 8, 9, 10, 11, 12, 13] (fun x _ _ _ _ _ _ _ wx => ∃ bo cn cc, x = .slice bo cn cc ∧ Hid (∃ C st2, cn ≤ 4000000000 ∧ SE w2 wx g1 ⟨ro, rn, rc, Z⟩ st2 bo cn cc C ∧ EnJ Z N C st2))
 case first =>
  go_wp2_with fail
  go_loopw [5, 7, 8, 9] (fun x r y i wr => ∃ (k r0 : Nat) (nm : Int) (bo : Option Addr) (cn cc : Nat) (C : List K.En) (st2 : Option (List Int)), k ≤ N ∧ i = .int .i64 k ∧ r = .int .i64 r0 ∧ y = .int .i64 nm ∧ x = .slice bo cn cc ∧ cn ≤ k ∧ Hid (SE w2 wr g1 ⟨ro, rn, rc, Z⟩ st2 bo cn cc C ∧ EnI Z N k r0 nm C st2)) (fun _ _ _ i _ => N - (intOf i).toNat)
  case atStart => exact ⟨0, 0, 0, none, 0, 0, [], st1, Nat.zero_le _, rfl, rfl, rfl, rfl, Nat.le_refl _, HP4.out, HV0.out⟩
  case round =>
   obtain ⟨k, r0, nm, bo, cn, cc, C, st2, hk, rfl, rfl, rfl, rfl, hcn, HZ⟩ := hrel
   rename World => wr
   obtain ⟨-, c2, -⟩ := HZ.out.1.r.bad_cell
   cases st2 with
   | none =>
    have c2 : wr.cell? ⟨g1, 2, none⟩ = some (.bool true) := c2
    have HE : Hid (∃ C st2, cn ≤ 4000000000 ∧ SE w2 wr g1 ⟨ro, rn, rc, Z⟩ st2 bo cn cc C ∧ EnJ Z N C st2) := ⟨C, none, by omega, HZ.out.1, HZ.out.2.done (.inl rfl)⟩
    by_cases hlt : k < N
    ·have hlti : ((k : Nat) : Int) < (N : Int) := by omega
     go_wp2_with fail
     go_meet
     case rel => exact ⟨bo, cn, cc, rfl, HE⟩
    ·have hlti : ¬ ((k : Nat) : Int) < (N : Int) := by omega
     go_wp2_with fail
     go_meet
     case rel => exact ⟨bo, cn, cc, rfl, HE⟩
   | some R1 =>
    have c2 : wr.cell? ⟨g1, 2, none⟩ = some (.bool false) := c2
    by_cases hlt : k < N
    ·have hlti : ((k : Nat) : Int) < (N : Int) := by omega
     have HPk := hide HZ.out.1
     have HCk := hide HZ.out.2
     have Hlt := hide hlt
     have hr0 : r0 ≤ 15 := by obtain ⟨T, -, -, -, -, -, h, -⟩ := HZ.out.2.1 R1 rfl; exact h
     clear HZ
     go_wp2_with fail
     refine (snum_any HPk.out.r 16 (by decide) (by have := HQ.out; show rn ≤ _; omega)).mono ?_
     rintro e Wa ⟨rfl, Ra, Ka⟩
     have ha0 := sNum_le (most := 16) (by decide) (some R1)
     obtain ⟨a, sa, hsa⟩ : ∃ a sa, sNum 16 (some R1) = (a, sa) := ⟨_, _, rfl⟩
     rw [hsa] at Ra ha0 ⊢
     simp only at Ra ha0 ⊢
     have HPa := hide (HPk.out.num Ka Ra)
     have Hsa := hide hsa
     clear Ra Ka hsa c2 HPk
     go_wp2_with fail
     refine (snum_any HPa.out.r 1000000000 (by decide) (by have := HQ.out; show rn ≤ _; omega)).mono ?_
     rintro e Wb ⟨rfl, Rb, Kb⟩
     have hb0 := sNum_le (most := 1000000000) (by decide) sa
     obtain ⟨b, sb, hsb⟩ : ∃ b sb, sNum 1000000000 sa = (b, sb) := ⟨_, _, rfl⟩
     rw [hsb] at Rb hb0 ⊢
     simp only at Rb hb0 ⊢
     have HPb := hide (HPa.out.num Kb Rb)
     have Hsb := hide hsb
     clear Rb Kb hsb HPa
     go_wp2_with fail
     refine (stext_any HPb.out.r 24 (by decide) (by have := HQ.out; show rn ≤ _; omega)).mono ?_
     rintro e Wt ⟨rfl, Rt, Kt⟩
     have ht0 := sTx_len (most := 24) sb HPb.out.oc
     obtain ⟨s, sc, hst⟩ : ∃ s sc, sTx 24 sb = (s, sc) := ⟨_, _, rfl⟩
     have hst' : sTx ((24 : Nat) : Int) sb = (s, sc) := hst
     rw [hst'] at ht0
     rw [hst] at Rt ⊢
     simp only at Rt ht0 ⊢
     have HPt := hide (HPb.out.num Kt Rt)
     have Hst := hide hst
     clear Rt Kt hst hst' HPb
     go_wp2_with fail
     refine (snum_any HPt.out.r 1000000 (by decide) (by have := HQ.out; show rn ≤ _; omega)).mono ?_
     rintro e Wc ⟨rfl, Rc, Kc⟩
     have hc0 := sNum_le (most := 1000000) (by decide) sc
     obtain ⟨x, sd, hsd⟩ : ∃ x sd, sNum 1000000 sc = (x, sd) := ⟨_, _, rfl⟩
     rw [hsd] at Rc hc0 ⊢
     simp only at Rc hc0 ⊢
     have HPc := hide (HPt.out.num Kc Rc)
     obtain ⟨y, hy, hyb, hno, hyes⟩ := HCk.out.next Hlt.out Hsa.out Hsb.out Hst.out hsd ht0
     have HY := hide hy
     obtain ⟨rr, hrr⟩ : ∃ rr, r0 + a = rr := ⟨_, rfl⟩
     have hri : (r0 : Int) + (a : Int) = (rr : Int) := by omega
     have hrb : rr ≤ 31 := by omega
     rw [hrr] at hno hyes
     obtain ⟨b1, hb1⟩ : ∃ b1 : Int, (b : Int) + 1 = b1 := ⟨_, rfl⟩
     rw [hb1] at hno hyes
     obtain ⟨yn, hyn⟩ : ∃ yn, y + b1 = yn := ⟨_, rfl⟩
     rw [hyn] at hno hyes
     obtain ⟨x1, hx1⟩ : ∃ x1 : Int, (x : Int) + 1 = x1 := ⟨_, rfl⟩
     rw [hx1] at hno hyes
     have HNo := hide hno
     have HYes := hide hyes
     have hyb0 := hyb.1
     have hyb1 := hyb.2
     have hbb0 : 0 ≤ b1 := by omega
     have hbb1 : b1 ≤ 1000000001 := by omega
     have hyn0 : 0 ≤ yn := by omega
     have hyn1 : yn ≤ 2000000001 := by omega
     have hxx0 : 0 ≤ x1 := by omega
     have hxx1 : x1 ≤ 1000001 := by omega
     have hcn2 : cn + 1 ≤ 3518437208882 := by omega
     have HK1 : Hid (k + 1 ≤ N ∧ cn + 1 ≤ k + 1 ∧ N - (k + 1) < N - k) := ⟨by omega, by omega, by omega⟩
     clear Rc Kc hsd HPt hno hyes hy hrr hyb
     by_cases ha : 0 < a
     ·have hai : (0 : Int) < (a : Int) := by omega
      have hyw : y = 0 := by
       have h1 := HY.out
       rw [if_pos ha] at h1
       exact h1
      subst hyw
      have hb1n : b1 = yn := by omega
      subst hb1n
      clear hyn
      by_cases h16 : 16 ≤ rr
      ·have h16i : (16 : Int) ≤ (rr : Int) := by omega
       have HLf : Hid (¬ (rr ≤ 15 ∧ b1 ≤ 1000000000)) := fun h => by have := h.1; omega
       go_wp2_with (at_builtin; go_loud (refine E.BR.app1 HPc.out.v ⟨(rr : Int), b1, s, x1⟩ _ rfl hcn2 rfl (.tmp 40) (.tmp 48) rfl rfl rfl ?_); intro bo2 c2 We Re Ae; have HPe := hide (HPc.out.app Ae Re); obtain ⟨-, ce, fe⟩ := HPe.out.r.bad_cell; clear Re Ae)
       go_roundw
       case rel => exact ⟨k + 1, rr, b1, bo2, cn + 1, c2, C ++ [⟨(rr : Int), b1, s, x1⟩], none, HK1.out.1, by simp, rfl, rfl, rfl, HK1.out.2.1, HPe.out.num HPe.out.r.spoil.2 HPe.out.r.spoil.1, HNo.out HLf.out⟩
       case measure => have := HK1.out.2.2; simp [intOf]; omega
      ·by_cases hhi : 1000000000 < b1
       ·have h16i : ¬ (16 : Int) ≤ (rr : Int) := by omega
        have HLf : Hid (¬ (rr ≤ 15 ∧ b1 ≤ 1000000000)) := fun h => by have := h.2; omega
        go_wp2_with (at_builtin; go_loud (refine E.BR.app1 HPc.out.v ⟨(rr : Int), b1, s, x1⟩ _ rfl hcn2 rfl (.tmp 40) (.tmp 48) rfl rfl rfl ?_); intro bo2 c2 We Re Ae; have HPe := hide (HPc.out.app Ae Re); obtain ⟨-, ce, fe⟩ := HPe.out.r.bad_cell; clear Re Ae)
        go_roundw
        case rel => exact ⟨k + 1, rr, b1, bo2, cn + 1, c2, C ++ [⟨(rr : Int), b1, s, x1⟩], none, HK1.out.1, by simp, rfl, rfl, rfl, HK1.out.2.1, HPe.out.num HPe.out.r.spoil.2 HPe.out.r.spoil.1, HNo.out HLf.out⟩
        case measure => have := HK1.out.2.2; simp [intOf]; omega
       ·have h16i : ¬ (16 : Int) ≤ (rr : Int) := by omega
        have HLf : Hid (rr ≤ 15 ∧ b1 ≤ 1000000000) := ⟨by omega, by omega⟩
        go_wp2_with (at_builtin; go_loud (refine E.BR.app1 HPc.out.v ⟨(rr : Int), b1, s, x1⟩ _ rfl hcn2 rfl (.tmp 40) (.tmp 48) rfl rfl rfl ?_); intro bo2 c2 We Re Ae; have HPe := hide (HPc.out.app Ae Re); obtain ⟨-, ce, fe⟩ := HPe.out.r.bad_cell; clear Re Ae)
        go_roundw
        case rel => exact ⟨k + 1, rr, b1, bo2, cn + 1, c2, C ++ [⟨(rr : Int), b1, s, x1⟩], sd, HK1.out.1, by simp, rfl, rfl, rfl, HK1.out.2.1, HPe.out, HYes.out HLf.out⟩
        case measure => have := HK1.out.2.2; simp [intOf]; omega
     ·have hai : ¬ (0 : Int) < (a : Int) := by omega
      have hyw : y = nm := by
       have h1 := HY.out
       rw [if_neg ha] at h1
       exact h1
      subst hyw
      by_cases h16 : 16 ≤ rr
      ·exact absurd h16 (by omega)
      ·by_cases hhi : 1000000000 < yn
       ·have h16i : ¬ (16 : Int) ≤ (rr : Int) := by omega
        have HLf : Hid (¬ (rr ≤ 15 ∧ yn ≤ 1000000000)) := fun h => by have := h.2; omega
        go_wp2_with (at_builtin; go_loud (refine E.BR.app1 HPc.out.v ⟨(rr : Int), yn, s, x1⟩ _ rfl hcn2 rfl (.tmp 40) (.tmp 48) rfl rfl rfl ?_); intro bo2 c2 We Re Ae; have HPe := hide (HPc.out.app Ae Re); obtain ⟨-, ce, fe⟩ := HPe.out.r.bad_cell; clear Re Ae)
        go_roundw
        case rel => exact ⟨k + 1, rr, yn, bo2, cn + 1, c2, C ++ [⟨(rr : Int), yn, s, x1⟩], none, HK1.out.1, by simp, rfl, rfl, rfl, HK1.out.2.1, HPe.out.num HPe.out.r.spoil.2 HPe.out.r.spoil.1, HNo.out HLf.out⟩
        case measure => have := HK1.out.2.2; simp [intOf]; omega
       ·have h16i : ¬ (16 : Int) ≤ (rr : Int) := by omega
        have HLf : Hid (rr ≤ 15 ∧ yn ≤ 1000000000) := ⟨by omega, by omega⟩
        go_wp2_with (at_builtin; go_loud (refine E.BR.app1 HPc.out.v ⟨(rr : Int), yn, s, x1⟩ _ rfl hcn2 rfl (.tmp 40) (.tmp 48) rfl rfl rfl ?_); intro bo2 c2 We Re Ae; have HPe := hide (HPc.out.app Ae Re); obtain ⟨-, ce, fe⟩ := HPe.out.r.bad_cell; clear Re Ae)
        go_roundw
        case rel => exact ⟨k + 1, rr, yn, bo2, cn + 1, c2, C ++ [⟨(rr : Int), yn, s, x1⟩], sd, HK1.out.1, by simp, rfl, rfl, rfl, HK1.out.2.1, HPe.out, HYes.out HLf.out⟩
        case measure => have := HK1.out.2.2; simp [intOf]; omega
    ·have hlti : ¬ ((k : Nat) : Int) < (N : Int) := by omega
     have HE : Hid (∃ C st2, cn ≤ 4000000000 ∧ SE w2 wr g1 ⟨ro, rn, rc, Z⟩ st2 bo cn cc C ∧ EnJ Z N C st2) := ⟨C, some R1, by omega, HZ.out.1, HZ.out.2.done (.inr (by omega))⟩
     go_wp2_with fail
     go_meet
     case rel => exact ⟨bo, cn, cc, rfl, HE⟩
 case rest =>
  obtain ⟨bo, cn, cc, rfl, HJ0⟩ := hcut
  rename World => wz
  obtain ⟨C, st2, hcn, hP5, hJ⟩ := HJ0.out
  have HP5 := hide hP5
  have HJ := hide hJ
  clear HJ0 hP5 hJ HP4 HV0
  have HBad : Hid (∀ V, Below w.heap.size w V → (∀ L0 : List K.En, K.okN L0 L0.length = true → Z ≠ entsB L0) → GpE w V Z (.returned (.tuple #[.slice none 0 0, .int .i64 8]))) := fun V hb h => ⟨hb, .inr ⟨h, rfl⟩⟩
  cases st2 with
  | none =>
   obtain ⟨-, c2, -⟩ := HP5.out.r.bad_cell
   have c2 : wz.cell? ⟨g1, 2, none⟩ = some (.bool true) := c2
   have HE := hide (HBad.out wz (HBW.out _ _ _ _ _ _ HP5.out) (fun L0 hL e => by have := (HJ.out.2 L0 hL e).1; cases this))
   go_wp2_with fail
   go_ret2
   exact HE.out
  | some R =>
   obtain ⟨a, c1, c2, ha⟩ := HP5.out.r.at_cell
   by_cases hR : R = []
   ·subst hR
    obtain rfl : a = rn := ha.2 rfl
    have hne : ((a : Int) != (a : Int)) = false := by simp
    obtain ⟨hZ, hC, hsk⟩ := HJ.out.1 [] rfl
    have HS := hide (HP5.out.v.src (by omega) (fun e he => Nat.le_trans (hsk e he) (by unfold maxLen; omega)))
    have HZ2 : Hid (Z = entsB C ∧ C.length = cn) := ⟨by rw [List.append_nil] at hZ; unfold entsB; rw [hC]; exact hZ, HP5.out.v.len⟩
    clear ha hZ hC hsk
    go_wp2_with fail
    refine (K.refEntries7_any bo cn cc C wz HS.out).mono ?_
    rintro e W6 ⟨rfl, b6⟩
    have HP6 := hide (HP5.out.below b6)
    cases hok : K.okN C cn with
    | true =>
     have HE : Hid (GpE w W6 Z (.returned (.tuple #[.slice bo cn cc, .int .i64 0]))) := by
      have e := HZ2.out.2
      subst e
      have h6 := HP6.out
      exact ⟨HBW.out _ _ _ _ _ _ h6, .inl ⟨C, bo, cc, hok, HZ2.out.1, rfl, ⟨h6.v, fun k e => Nat.le_trans HM.out.1.size (h6.vb k e), (ok_eok hok).1⟩⟩⟩
     clear b6 hok
     go_wp2_with fail
     go_ret2
     exact HE.out
    | false =>
     have HE := hide (HBad.out W6 (HBW.out _ _ _ _ _ _ HP6.out) (fun L0 hL e => by
      have h := (HJ.out.2 L0 hL e).2
      rw [← h, HZ2.out.2, hok] at hL
      cases hL))
     clear b6 hok
     go_wp2_with fail
     go_ret2
     exact HE.out
   ·have hne : ((a : Int) != (rn : Int)) = true := by
     rw [bne_iff_ne]
     intro e
     exact hR (ha.1 (by show a = rn; omega))
    have HE := hide (HBad.out wz (HBW.out _ _ _ _ _ _ HP5.out) (fun L0 hL e => by
     have h := (HJ.out.2 L0 hL e).1
     exact hR (Option.some.inj h)))
    clear ha hR
    go_wp2_with fail
    go_ret2
    exact HE.out
end Go.Proofs.YtphohmoibnoeaaaGreat
namespace Go.Proofs.YtphohmoibnoeaaaGreat
open Go.RowKit
variable {w w' w2 W W' W2 w0 : World} {g : Nat} {q : Sq} {st : Option (List Int)} {Z : List Int}

structure SR (w0 W : World) (g : Nat) (q : Sq) (st : Option (List Int)) (eo : Option Addr) (en ec : Nat) (L : List Rc) : Prop where
 r : SB W g q st
 gl : g < w0.heap.size
 bl : q.n ≠ 0 → ∀ k, U.blk q.o = some k → k < w0.heap.size
 k : U.Kg w0 W g
 v : M.BR W eo en ec L
 vnew : ∀ k, U.blk eo = some k → w0.heap.size ≤ k
 ps : ∀ x ∈ L, PN w0.heap.size W x.p ∧ x.s.size ≤ 24 ∧ ∀ k, (U.blk x.p.vo = some k ∨ U.blk x.p.co = some k) → U.blk eo ≠ some k
variable {eo : Option Addr} {en ec : Nat} {L : List Rc}
theorem SR.num (h : SR w0 W g q st eo en ec L) (K : U.Kg W W' g) {st' : Option (List Int)} (R : SB W' g q st') : SR w0 W' g q st' eo en ec L := by
 have hg := h.gl
 exact ⟨R, h.gl, h.bl, h.k.trans K, h.v.keep fun k e => K.block k (h.v.lt k e) (by have := h.vnew k e; omega), h.vnew, fun x hx => ⟨(h.ps x hx).1.keep (fun k h1 h2 => K.block k h2 (by omega)), (h.ps x hx).2⟩⟩
theorem SR.below (h : SR w0 W g q st eo en ec L) (b : Below W.heap.size W W') : SR w0 W' g q st eo en ec L := h.num (U.Kg.of_below b) (h.r.below b)
theorem SR.app (h : SR w0 W g q st eo en ec L) (rN : Rc) (hr : PN w0.heap.size W rN.p) (hs : rN.s.size ≤ 24) (hne : ∀ k, (U.blk rN.p.vo = some k ∨ U.blk rN.p.co = some k) → U.blk eo ≠ some k) {bo : Option Addr} {n2 c2 : Nat} (A : U.Ap W W2 eo bo) (h2 : M.BR W2 bo n2 c2 (L ++ [rN])) : SR w0 W2 g q st bo n2 c2 (L ++ [rN]) := by
 have hg := h.gl
 have hk := h.k
 have hvo : ∀ k, k < W.heap.size → U.blk eo ≠ some k → W2.heap[k]? = W.heap[k]? := fun k hk hn => A.grown.block k hk (fun e => hn e.symm)
 have nlow : ∀ k, k < w0.heap.size → U.blk eo ≠ some k := fun k hk e => by have := h.vnew k e; omega
 have hbo : ∀ k, U.blk bo = some k → U.blk eo = some k ∨ W.heap.size ≤ k := fun k e => by
  rcases A.lies with x | ⟨j, x, hj⟩
  ·exact .inl (x ▸ e)
  ·rw [x] at e; exact .inr (by have := Option.some.inj e; omega)
 have hps : ∀ x : Rc, PN w0.heap.size W x.p → x.s.size ≤ 24 → (∀ k, (U.blk x.p.vo = some k ∨ U.blk x.p.co = some k) → U.blk eo ≠ some k) → PN w0.heap.size W2 x.p ∧ x.s.size ≤ 24 ∧ ∀ k, (U.blk x.p.vo = some k ∨ U.blk x.p.co = some k) → U.blk bo ≠ some k := fun x p1 p2 p3 => by
  refine ⟨p1.keep2 (fun k e => hvo k (p1.v.lt k e) (p3 k (.inl e))) (fun k e => hvo k (p1.c.lt k e) (p3 k (.inr e))), p2, fun k e e2 => ?_⟩
  rcases hbo k e2 with y | y
  ·exact p3 k e y
  ·have := p1.lt k e; omega
 refine ⟨h.r.keep (hvo g h.r.lt (nlow g hg)) (fun hz k e => hvo k (Nat.lt_of_lt_of_le (h.bl hz k e) hk.size) (nlow k (h.bl hz k e))), h.gl, h.bl, ⟨A.grown.os.trans hk.os, A.grown.tape.trans hk.tape, A.grown.output.trans hk.output, Nat.le_trans hk.size A.grown.size, fun k hk1 hn => (hvo k (Nat.lt_of_lt_of_le hk1 hk.size) (nlow k hk1)).trans (hk.block k hk1 hn)⟩, h2, fun k e => ?_, fun x hx => ?_⟩
 ·rcases hbo k e with y | y
  ·exact h.vnew k y
  ·exact Nat.le_trans hk.size y
 ·rcases List.mem_append.1 hx with hx | hx
  ·exact hps x (h.ps x hx).1 (h.ps x hx).2.1 (h.ps x hx).2.2
  ·obtain rfl := List.mem_singleton.1 hx
   exact hps x hr hs hne
theorem map_getD {α β : Type} (f : α → β) (L : List α) (j : Nat) (d : α) : (L.map f).getD j (f d) = f (L.getD j d) := by
 rw [List.getD_eq_getElem?_getD, List.getD_eq_getElem?_getD, List.getElem?_map]
 cases L[j]? <;> rfl
theorem pl_getD {C L : List Rc} (h : plR C = plR L) (j : Nat) : (C.getD j rc0).s = (L.getD j rc0).s ∧ (C.getD j rc0).p.P = (L.getD j rc0).p.P := by
 have e := congrArg (fun l => l.getD j (rc0.s, rc0.p.P)) h
 simp only [plR] at e
 rw [map_getD (fun r : Rc => (r.s, r.p.P)) C j rc0, map_getD (fun r : Rc => (r.s, r.p.P)) L j rc0] at e
 simpa using e
theorem okR_pl9 {C L : List Rc} {n : Nat} (h : plR C = plR L) (hL : OkR L n) : OkR C n := by
 intro j hj
 obtain ⟨h1, h2⟩ := hL j hj
 have e1 := pl_getD h j
 have e0 := pl_getD h (j - 1)
 refine ⟨?_, fun h0 => ?_⟩
 ·unfold RecOk at h1 ⊢
  rw [e1.1, e1.2]
  exact h1
 ·obtain ⟨z, hz, hz0⟩ := h2 h0
  refine ⟨z, ?_, hz0⟩
  unfold CmpR at hz ⊢
  rw [e1.1, e1.2, e0.1, e0.2]
  exact hz
theorem okR_form {L : List Rc} (h : OkR L L.length) : ∀ x ∈ plR L, skuR x.1 = true ∧ FormP x.2 := fun x hx => by
 unfold plR at hx
 obtain ⟨r, hr, rfl⟩ := List.mem_map.1 hx
 obtain ⟨k, hk, rfl⟩ := List.getElem_of_mem hr
 have := (h k hk).1
 rw [List.getD_eq_getElem?_getD, List.getElem?_eq_getElem hk] at this
 exact this
def RcF (Z : List Int) (n k : Nat) (C : List Rc) (R : List Int) : Prop := Z = U.numB n ++ (recB (plR C) ++ R) ∧ U.Oc R ∧ C.length = k
def RcB (Z : List Int) (n k : Nat) (C : List Rc) (st : Option (List Int)) : Prop := ∀ L0 : List Rc, OkR L0 L0.length ∧ L0.length ≤ 9223372036854775807 → Z = recsB (plR L0) → ∃ R, st = some R ∧ n = L0.length ∧ plR C = (plR L0).take k
def RcI (Z : List Int) (n k : Nat) (C : List Rc) (st : Option (List Int)) : Prop := (∀ R, st = some R → RcF Z n k C R) ∧ RcB Z n k C st
theorem recs_short {L0 : List Rc} (h : OkR L0 L0.length) (hz : Z.length ≤ 4000000000) (e : Z = recsB (plR L0)) : L0.length ≤ 4000000000 := by
 have h1 := recB_len (plR L0) (fun x hx => (okR_form h x hx).2)
 rw [e] at hz
 unfold recsB at hz
 rw [List.length_append] at hz
 rw [plR_len] at h1
 omega
theorem rc_start {N : Nat} {st1 : Option (List Int)} (hZ : U.Oc Z) (hz : Z.length ≤ 4000000000) (h : sNum 4000000000 (some Z) = (N, st1)) : RcI Z N 0 [] st1 := by
 refine ⟨fun R e => ?_, fun L0 hL e => ?_⟩
 ·subst e
  obtain ⟨R0, e0, hp⟩ := sNum_some h
  obtain rfl := Option.some.inj e0
  obtain ⟨e1, -, o1, -⟩ := U.pNum_of hZ hp
  exact ⟨e1, o1, rfl⟩
 ·have h1 := recs_short hL.1 hz e
  have h2 : U.pNum 4000000000 Z = some (L0.length, recB (plR L0)) := by
   rw [e]
   unfold recsB
   rw [plR_len]
   exact U.pNum_to _ (by omega) (by omega)
  rw [sNum_ok h2] at h
  simp only [Prod.mk.injEq] at h
  exact ⟨_, h.2.symm, h.1.symm, by simp [plR]⟩
def PaI (st st' : Option (List Int)) (P : Pst) : Prop := (st' = none ∧ ∀ R P R', st = some R → rdPast R = some (P, R') → ¬ InForm P) ∨ ∃ R R', st = some R ∧ st' = some R' ∧ rdPast R = some (P, R') ∧ InForm P
theorem RcI.next {N k : Nat} {C : List Rc} {R : List Int} {s : ByteArray} {p : Pv} {sa st' : Option (List Int)} (h : RcI Z N k C (some R)) (hk : k < N) (hs : sTx 24 (some R) = (s, sa)) (hp : PaI sa st' p.P) :
  (¬ skuR s = true → RcI Z N (k + 1) (C ++ [⟨s, p⟩]) none) ∧ (skuR s = true → RcI Z N (k + 1) (C ++ [⟨s, p⟩]) st') := by
 obtain ⟨hZ, hO, hC⟩ := h.1 R rfl
 have hB : ∀ L0 : List Rc, OkR L0 L0.length ∧ L0.length ≤ 9223372036854775807 → Z = recsB (plR L0) → skuR s = true ∧ (∃ R', st' = some R') ∧ N = L0.length ∧ plR (C ++ [⟨s, p⟩]) = (plR L0).take (k + 1) := fun L0 hL e0 => by
  obtain ⟨R', eR, hN, hCt⟩ := h.2 L0 hL e0
  obtain rfl := Option.some.inj eR
  have hkl : k < (plR L0).length := by rw [plR_len]; omega
  obtain ⟨x, hx⟩ : ∃ x, (plR L0)[k] = x := ⟨_, rfl⟩
  have hd : (plR L0).drop k = x :: (plR L0).drop (k + 1) := by rw [List.drop_eq_getElem_cons hkl, hx]
  have hsp : plR L0 = plR C ++ (x :: (plR L0).drop (k + 1)) := by rw [hCt, ← hd, List.take_append_drop]
  have hxm : x ∈ plR L0 := by rw [← hx]; exact List.getElem_mem hkl
  obtain ⟨f1, f2⟩ := okR_form hL.1 x hxm
  have hR2 : R = txB x.1 ++ (pastB x.2 ++ recB ((plR L0).drop (k + 1))) := by
   have e3 := e0
   unfold recsB at e3
   rw [hZ, hN, plR_len] at e3
   have e4 := List.append_cancel_left e3
   rw [show recB (plR L0) = recB (plR C) ++ (txB x.1 ++ (pastB x.2 ++ recB ((plR L0).drop (k + 1)))) by (conv => lhs; rw [hsp]); simp only [recB, List.flatMap_append, List.flatMap_cons, List.append_assoc]] at e4
   exact List.append_cancel_left e4
  have hl := sku_len f1
  have p1 : pTx 24 R = some (x.1, pastB x.2 ++ recB ((plR L0).drop (k + 1))) := by rw [hR2]; exact pTx_to _ (by omega) (by omega)
  rw [sTx_ok p1] at hs
  simp only [Prod.mk.injEq] at hs
  obtain ⟨rfl, rfl⟩ := hs
  have p2 := rdPast_to f2.1 (recB ((plR L0).drop (k + 1)))
  rcases hp with ⟨rfl, hno⟩ | ⟨R1, R2, e1, e2, e3, e4⟩
  ·exact absurd f2.1 (hno _ _ _ rfl p2)
  ·obtain rfl := Option.some.inj e1
   rw [p2] at e3
   simp only [Option.some.injEq, Prod.mk.injEq] at e3
   refine ⟨f1, ⟨_, e2⟩, hN, ?_⟩
   rw [plR_snoc, List.take_succ_eq_append_getElem hkl, hx, ← hCt, ← e3.1]
 refine ⟨fun hno => ⟨fun R' e => (by cases e), fun L0 hL e0 => absurd (hB L0 hL e0).1 hno⟩, fun hyes => ⟨fun R' e => ?_, fun L0 hL e0 => ?_⟩⟩
 ·subst e
  rcases hp with ⟨e1, -⟩ | ⟨R1, R2, e1, e2, e3, e4⟩
  ·cases e1
  ·obtain rfl := Option.some.inj e2
   subst e1
   obtain ⟨R0, e0, p1⟩ := sTx_some hs
   obtain rfl := Option.some.inj e0
   obtain ⟨q1, -, o1⟩ := pTx_of hO p1
   obtain ⟨q2, o2, -⟩ := rdPast_of o1 e3
   refine ⟨?_, o2, by simp [hC]⟩
   rw [plR_snoc, recB_snoc, hZ]
   simp only [List.append_assoc]
   rw [← q2, ← q1]
 ·obtain ⟨-, ⟨R', e⟩, hN, hl⟩ := hB L0 hL e0
  exact ⟨R', e, hN, hl⟩
def RcJ (Z : List Int) (N : Nat) (C : List Rc) (st : Option (List Int)) : Prop :=
 (∀ R, st = some R → Z = U.numB N ++ (recB (plR C) ++ R) ∧ C.length = N) ∧ ∀ L0 : List Rc, OkR L0 L0.length ∧ L0.length ≤ 9223372036854775807 → Z = recsB (plR L0) → st = some [] ∧ plR C = plR L0
theorem RcI.done {N k : Nat} {C : List Rc} (h : RcI Z N k C st) (hk : st = none ∨ k = N) : RcJ Z N C st := by
 rcases hk with rfl | rfl
 ·exact ⟨fun R e => (by cases e), fun L0 hL e0 => by obtain ⟨R, e, -⟩ := h.2 L0 hL e0; cases e⟩
 ·refine ⟨fun R e => ⟨(h.1 R e).1, (h.1 R e).2.2⟩, fun L0 hL e0 => ?_⟩
  obtain ⟨R, e, hN, hC⟩ := h.2 L0 hL e0
  obtain ⟨hZ, -, -⟩ := h.1 R e
  rw [hN, ← plR_len L0, List.take_length] at hC
  refine ⟨?_, hC⟩
  rw [e0, hC] at hZ
  unfold recsB at hZ
  rw [plR_len, hN] at hZ
  have e4 := List.append_cancel_left hZ
  have e5 := congrArg List.length e4
  rw [List.length_append] at e5
  rw [e]
  congr 1
  exact List.eq_nil_of_length_eq_zero (by omega)
theorem isE_iff (s : ByteArray) : s.toList.isEmpty = true ↔ s.size = 0 := by
 rw [ByteArray.toList_eq, List.isEmpty_iff]
 constructor
 ·intro e
  show s.data.size = 0
  rw [← Array.length_toList, e]
  rfl
 ·intro h
  exact List.eq_nil_of_length_eq_zero (by rw [Array.length_toList]; exact h)
attribute [local go_sem ↓] stSc_eq bldR_eq run_bldR
attribute [local go_sem] cells_PV PC_size cells_ReV ReC_size zero_ReC fold_ReC
set_option maxRecDepth 100000 in
set_option maxHeartbeats 12800000 in
theorem rgetR9_any (ro : Option Addr) (rn rc : Nat) (Z : List Int) (w : World) (S : U.Src w ro rn rc Z) (hcap : rn ≤ rc) (hz : rn ≤ 4000000000) : Calls Tryz.prog 43 #[.slice ro rn rc] w fun r w' => GpR w w' Z r := by
 obtain ⟨g1, hg1⟩ : ∃ g1, w.heap.size = g1 := ⟨_, rfl⟩
 obtain ⟨w2, hst2, B2, b2, s2⟩ := madeSc w ro rn rc Z S hcap g1 hg1
 have P2 : SR w2 w2 g1 ⟨ro, rn, rc, Z⟩ (some Z) none 0 0 [] := ⟨B2, B2.lt, fun h0 k e => Nat.lt_of_lt_of_le (src_blk S h0 k e) b2.size, U.Kg.refl _ _, M.BR.nil _, (fun k e => by cases e), fun x hx => by cases hx⟩
 have HP2 := hide P2
 have HM : Hid (Below w.heap.size w w2 ∧ w.heap.size = g1 ∧ U.Oc Z ∧ Z.length = rn ∧ g1 < w2.heap.size) := ⟨b2, hg1, S.2.2.2, S.1, by rw [s2, hg1]; omega⟩
 have HQ := hide hz
 have HBW : Hid (∀ V st bo n cc L, SR w2 V g1 ⟨ro, rn, rc, Z⟩ st bo n cc L → Below w.heap.size w V) := fun V st bo n cc L h => by
  have hk := h.k
  have hb := HM.out.1
  exact ⟨hk.os.trans hb.os, hk.tape.trans hb.tape, hk.output.trans hb.output, Nat.le_trans hb.size hk.size, fun k hk1 => (hk.block k (Nat.lt_of_lt_of_le hk1 hb.size) (by have := HM.out.2.1; omega)).trans (hb.block k hk1)⟩
 clear B2 b2 S hcap hz s2 P2
 go_enter Tryz.func43, Tryz.ntmps43
 go_wp2_with fail
 clear hst2 hg1
 refine (snum_any HP2.out.r 4000000000 (by decide) (by have := HQ.out; show rn ≤ _; omega)).mono ?_
 rintro e W4 ⟨rfl, R4, K4⟩
 have hN0 := sNum_le (most := 4000000000) (by decide) (some Z)
 obtain ⟨N, st1, h1⟩ : ∃ N st1, sNum 4000000000 (some Z) = (N, st1) := ⟨_, _, rfl⟩
 rw [h1] at R4 hN0 ⊢
 simp only at R4 hN0 ⊢
 have hN : N ≤ 4000000000 := by omega
 have HP4 := hide (HP2.out.num K4 R4)
 have HV0 := hide (rc_start HM.out.2.2.1 (by have := HM.out.2.2.2.1; have := HQ.out; omega) h1)
 clear R4 K4 HP2 h1 hN0
 go_upto_block 0 with fail
 go_cut [5, 7, 8] (fun x _ _ wx => ∃ bo cn cc, x = .slice bo cn cc ∧ Hid (∃ C st2, cn ≤ 4000000000 ∧ SR w2 wx g1 ⟨ro, rn, rc, Z⟩ st2 bo cn cc C ∧ RcJ Z N C st2))
 case first =>
  go_wp2_with fail
  go_loopw [5, 7] (fun x i wr => ∃ (k : Nat) (bo : Option Addr) (cn cc : Nat) (C : List Rc) (st2 : Option (List Int)), k ≤ N ∧ i = .int .i64 k ∧ x = .slice bo cn cc ∧ cn ≤ k ∧ Hid (SR w2 wr g1 ⟨ro, rn, rc, Z⟩ st2 bo cn cc C ∧ RcI Z N k C st2)) (fun _ i _ => N - (intOf i).toNat)
  case atStart => exact ⟨0, none, 0, 0, [], st1, Nat.zero_le _, rfl, rfl, Nat.le_refl _, HP4.out, HV0.out⟩
  case round =>
   obtain ⟨k, bo, cn, cc, C, st2, hk, rfl, rfl, hcn, HZ⟩ := hrel
   rename World => wr
   obtain ⟨-, c2, -⟩ := HZ.out.1.r.bad_cell
   cases st2 with
   | none =>
    have c2 : wr.cell? ⟨g1, 2, none⟩ = some (.bool true) := c2
    have HE : Hid (∃ C st2, cn ≤ 4000000000 ∧ SR w2 wr g1 ⟨ro, rn, rc, Z⟩ st2 bo cn cc C ∧ RcJ Z N C st2) := ⟨C, none, by omega, HZ.out.1, HZ.out.2.done (.inl rfl)⟩
    by_cases hlt : k < N
    ·have hlti : ((k : Nat) : Int) < (N : Int) := by omega
     go_wp2_with fail
     go_meet
     case rel => exact ⟨bo, cn, cc, rfl, HE⟩
    ·have hlti : ¬ ((k : Nat) : Int) < (N : Int) := by omega
     go_wp2_with fail
     go_meet
     case rel => exact ⟨bo, cn, cc, rfl, HE⟩
   | some R1 =>
    have c2 : wr.cell? ⟨g1, 2, none⟩ = some (.bool false) := c2
    by_cases hlt : k < N
    ·have hlti : ((k : Nat) : Int) < (N : Int) := by omega
     have HPk := hide HZ.out.1
     have HCk := hide HZ.out.2
     have Hlt := hide hlt
     have HOc : Hid (U.Oc R1) := (HZ.out.2.1 R1 rfl).2.1
     clear HZ
     go_wp2_with fail
     refine (stext_any HPk.out.r 24 (by decide) (by have := HQ.out; show rn ≤ _; omega)).mono ?_
     rintro e Wt ⟨rfl, Rt, Kt⟩
     have ht0 := sTx_len (most := 24) (some R1) (fun R e => by obtain rfl := Option.some.inj e; exact HOc.out)
     obtain ⟨s, sa, hst⟩ : ∃ s sa, sTx 24 (some R1) = (s, sa) := ⟨_, _, rfl⟩
     have hst' : sTx ((24 : Nat) : Int) (some R1) = (s, sa) := hst
     rw [hst'] at ht0
     rw [hst] at Rt ⊢
     simp only at Rt ht0 ⊢
     have HPt := hide (HPk.out.num Kt Rt)
     have Hst := hide hst
     clear Rt Kt hst hst' HPk c2
     go_wp2_with fail
     refine (spast_any HPt.out.r (fun h0 j e => Nat.lt_of_lt_of_le (HPt.out.bl h0 j e) HPt.out.k.size) HQ.out).mono ?_
     rintro e Wp ⟨p, st', rfl, hN5, hB5, hK5, hcase⟩
     have HPp := hide (HPt.out.num hK5 hB5)
     obtain ⟨hnx0, hnx1⟩ := HCk.out.next (p := p) Hlt.out Hst.out hcase
     have HN5 := hide (hN5.mono HPt.out.k.size)
     have HNe : Hid (∀ j, (U.blk p.vo = some j ∨ U.blk p.co = some j) → U.blk bo ≠ some j) := fun j e e2 => by
      have h1 := HPt.out.v.lt j e2
      have h2 : Wt.heap.size ≤ j := e.elim (fun e => hN5.vb j e) (fun e => hN5.cb j e)
      omega
     have HX0 := hide hnx0
     have HX1 := hide hnx1
     have HT0 := hide ht0
     have hcn2 : cn + 1 ≤ 2199023255552 := by omega
     have HK1 : Hid (k + 1 ≤ N ∧ cn + 1 ≤ k + 1 ∧ N - (k + 1) < N - k) := ⟨by omega, by omega, by omega⟩
     clear hN5 hB5 hK5 hcase hnx0 hnx1 HPt
     by_cases h0 : s.size = 0
     ·have hne : s.toList.isEmpty = true := (isE_iff s).2 h0
      have HSk : Hid (skuR s = true) := by show _ = _; unfold skuR; rw [decide_eq_true h0]; rfl
      clear h0
      go_wp2_with (at_builtin; go_loud (refine M.BR.app1 HPp.out.v ⟨s, p⟩ _ rfl hcn2 rfl (.tmp 23) (.tmp 27) rfl rfl rfl ?_); intro bo2 c2 We Re Ae; have HPe := hide (HPp.out.app ⟨s, p⟩ HN5.out HT0.out HNe.out Ae Re); clear Re Ae)
      go_roundw
      case rel => exact ⟨k + 1, bo2, cn + 1, c2, C ++ [⟨s, p⟩], st', HK1.out.1, by simp, rfl, HK1.out.2.1, HPe.out, HX1.out HSk.out⟩
      case measure => have := HK1.out.2.2; simp [intOf]; omega
     ·have hne : s.toList.isEmpty = false := by
       cases h : s.toList.isEmpty with
       | false => rfl
       | true => exact absurd ((isE_iff s).1 h) h0
      have HSg : Hid (skuR s = K.good s.data.toList) := by show _ = _; unfold skuR; rw [decide_eq_false h0]; rfl
      have HMx : Hid (s.size ≤ maxLen) := by show _ ≤ _; have := HT0.out; unfold maxLen; omega
      clear h0
      go_wp2_with (at_builtin; go_loud (refine M.BR.app1 HPp.out.v ⟨s, p⟩ _ rfl hcn2 rfl (.tmp 23) (.tmp 27) rfl rfl rfl ?_); intro bo2 c2 We Re Ae; have HPe := hide (HPp.out.app ⟨s, p⟩ HN5.out HT0.out HNe.out Ae Re); clear Re Ae)
      refine (K.refGood_any s _ HMx.out).mono ?_
      rintro e Wg ⟨rfl, rfl⟩
      rename World => Wg
      obtain ⟨-, ce, fe⟩ := HPe.out.r.bad_cell
      cases hg : K.good s.data.toList with
      | true =>
       have HSk : Hid (skuR s = true) := by show _ = _; rw [HSg.out]; exact hg
       clear hg
       go_wp2_with fail
       go_roundw
       case rel => exact ⟨k + 1, bo2, cn + 1, c2, C ++ [⟨s, p⟩], st', HK1.out.1, by simp, rfl, HK1.out.2.1, HPe.out, HX1.out HSk.out⟩
       case measure => have := HK1.out.2.2; simp [intOf]; omega
      | false =>
       have HSk : Hid (¬ skuR s = true) := by show ¬ _; rw [HSg.out, hg]; decide
       clear hg
       go_wp2_with fail
       go_roundw
       case rel => exact ⟨k + 1, bo2, cn + 1, c2, C ++ [⟨s, p⟩], none, HK1.out.1, by simp, rfl, HK1.out.2.1, HPe.out.num HPe.out.r.spoil.2 HPe.out.r.spoil.1, HX0.out HSk.out⟩
       case measure => have := HK1.out.2.2; simp [intOf]; omega
    ·have hlti : ¬ ((k : Nat) : Int) < (N : Int) := by omega
     have HE : Hid (∃ C st2, cn ≤ 4000000000 ∧ SR w2 wr g1 ⟨ro, rn, rc, Z⟩ st2 bo cn cc C ∧ RcJ Z N C st2) := ⟨C, some R1, by omega, HZ.out.1, HZ.out.2.done (.inr (by omega))⟩
     go_wp2_with fail
     go_meet
     case rel => exact ⟨bo, cn, cc, rfl, HE⟩
 case rest =>
  obtain ⟨bo, cn, cc, rfl, HJ0⟩ := hcut
  rename World => wz
  obtain ⟨C, st2, hcn, hP5, hJ⟩ := HJ0.out
  have HP5 := hide hP5
  have HJ := hide hJ
  clear HJ0 hP5 hJ HP4 HV0
  have HBad : Hid (∀ V, Below w.heap.size w V → (∀ L0 : List Rc, OkR L0 L0.length ∧ L0.length ≤ 9223372036854775807 → Z ≠ recsB (plR L0)) → GpR w V Z (.returned (.tuple #[.slice none 0 0, .int .i64 8]))) := fun V hb h => ⟨hb, .inr ⟨h, rfl⟩⟩
  cases st2 with
  | none =>
   obtain ⟨-, c2, -⟩ := HP5.out.r.bad_cell
   have c2 : wz.cell? ⟨g1, 2, none⟩ = some (.bool true) := c2
   have HE := hide (HBad.out wz (HBW.out _ _ _ _ _ _ HP5.out) (fun L0 hL e => by have := (HJ.out.2 L0 hL e).1; cases this))
   go_wp2_with fail
   go_ret2
   exact HE.out
  | some R =>
   obtain ⟨a, c1, c2, ha⟩ := HP5.out.r.at_cell
   by_cases hR : R = []
   ·subst hR
    obtain rfl : a = rn := ha.2 rfl
    have hne : ((a : Int) != (a : Int)) = false := by simp
    obtain ⟨hZ, hC⟩ := HJ.out.1 [] rfl
    have HS := hide (HP5.out.v.src (by omega) (fun r hr => ⟨(HP5.out.ps r hr).1.src, Nat.le_trans (HP5.out.ps r hr).2.1 (by unfold maxLen; omega)⟩))
    have HZ2 : Hid (Z = recsB (plR C) ∧ C.length = cn) := ⟨by rw [List.append_nil] at hZ; unfold recsB; rw [plR_len, hC]; exact hZ, HP5.out.v.len⟩
    clear ha hZ hC
    go_wp2_with fail
    refine (refCheck7_any bo cn cc C wz HS.out).mono ?_
    rintro e W6 ⟨x, rfl, hx, b6⟩
    have HP6 := hide (HP5.out.below b6)
    rcases hx with ⟨rfl, hok⟩ | ⟨rfl, hok⟩
    ·have HE : Hid (GpR w W6 Z (.returned (.tuple #[.slice bo cn cc, .int .i64 0]))) := by
      have e := HZ2.out.2
      subst e
      have h6 := HP6.out
      exact ⟨HBW.out _ _ _ _ _ _ h6, .inl ⟨C, bo, cc, hok, HZ2.out.1, rfl, ⟨h6.v, fun k e => Nat.le_trans HM.out.1.size (h6.vnew k e), by omega, fun x hx => ⟨(h6.ps x hx).1.mono HM.out.1.size, (h6.ps x hx).2.1⟩⟩⟩⟩
     clear b6 hok
     go_wp2_with fail
     go_ret2
     exact HE.out
    ·have HE := hide (HBad.out W6 (HBW.out _ _ _ _ _ _ HP6.out) (fun L0 hL e => by
      have h := (HJ.out.2 L0 hL e).2
      have hl : C.length = L0.length := by rw [← plR_len C, h, plR_len]
      have h2 := okR_pl9 h hL.1
      rw [← hl, HZ2.out.2] at h2
      exact hok h2))
     clear b6 hok
     go_wp2_with fail
     go_ret2
     exact HE.out
   ·have hne : ((a : Int) != (rn : Int)) = true := by
     rw [bne_iff_ne]
     intro e
     exact hR (ha.1 (by show a = rn; omega))
    have HE := hide (HBad.out wz (HBW.out _ _ _ _ _ _ HP5.out) (fun L0 hL e => by
     have h := (HJ.out.2 L0 hL e).1
     exact hR (Option.some.inj h)))
    clear ha hR
    go_wp2_with fail
    go_ret2
    exact HE.out
end Go.Proofs.YtphohmoibnoeaaaGreat
