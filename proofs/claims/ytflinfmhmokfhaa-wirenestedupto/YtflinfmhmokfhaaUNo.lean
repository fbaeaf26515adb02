/- WireNested: the outer closure. -/
import Derived.Test.YtflinfmhmokfhaaUNs
import Derived.Test.YtflinfmhmokfhaaUPs
namespace Go.Proofs.Ytflinfmhmokfhaa
open Go.RowKit
attribute [local go_sem ↓] ldG_eq stG_eq ldK_eq stK_eq
attribute [local go_sem] GC_size KC_size to_GC to_KC fold_GC1 KC_s0 KC_s1
variable {w0 wB w w' w2 wr : World} {N0 n nO gin o gg gn gr gx ge : Nat} {bz : Option Nat} {ro co so0 so1 so2 lo : Option Addr} {rn rc cn cc sn0 sc0 sn1 sc1 sn2 sc2 ln lc : Nat} {Zc Z0 : List Int} {P0 P1 P2 : List Ask}

theorem TN.kj {Pr : Nat → Prop} {g off : Nat} {so : Option Addr} {sn sc : Nat} {P : List Ask} (h : TN Pr w0 g gg gn off gr o so sn sc P) (hw : ∀ j, Pr j → j ≠ g → j ≠ gg → w.heap[j]? = w0.heap[j]?) : TN Pr w g gg gn off gr o so sn sc P :=
  ⟨h.nc' hw, (hw gr h.pos.2.2.2.1 h.pos.2.2.2.2.1 h.pos.2.2.2.2.2).trans h.vr, kKeep h.qs (fun h0 k e => hw k (h.far h0 k e).1 (h.far h0 k e).2.1 (h.far h0 k e).2.2), h.pos, h.far, h.big⟩
theorem rdJ_len : ∀ (P : List Ask) (Z : List Int), (rdT P Z).1.length ≤ P.length
  | [], Z => Nat.le_refl _
  | s :: P, Z => by
    by_cases h : aE Z s.kind s.n = 0
    · rw [rdT_ok h]
      have := rdJ_len P (Z.drop (aK Z s.kind))
      simp only [List.length_cons]
      omega
    · rw [rdT_bad h]
      exact Nat.zero_le _
/-- what it all comes to -/
def Res (P0 P1 P2 : List Ask) (Z0 Zc : List Int) (I G : List Got) (b : Bool) (x err : Int) : Prop :=
  ((rdT P0 Z0).2.1 ≠ 0 ∧ I = [] ∧ G = (rdT P0 Z0).1 ∧ b = false ∧ err = (rdT P0 Z0).2.1) ∨
    ((rdT P0 Z0).2.1 = 0 ∧ I = (rdT P1 Zc).1 ∧
      (((rdT P1 Zc).2.1 ≠ 0 ∧ G = (rdT P0 Z0).1 ∧ b = true ∧ x = (rdT P1 Zc).2.1 ∧ err = endA (rdT P0 Z0).2.2.length) ∨
        ((rdT P1 Zc).2.1 = 0 ∧ G = (rdT P0 Z0).1 ++ (rdT (calm P2) (rdT P0 Z0).2.2).1 ∧
          (((rdT (calm P2) (rdT P0 Z0).2.2).2.1 = 0 ∧ b = true ∧ x = (if (calm P2).length < P2.length then 8 else endA (rdT P1 Zc).2.2.length) ∧ err = endA (rdT (calm P2) (rdT P0 Z0).2.2).2.2.length) ∨
            ((rdT (calm P2) (rdT P0 Z0).2.2).2.1 ≠ 0 ∧ b = false ∧ err = (rdT (calm P2) (rdT P0 Z0).2.2).2.1)))))
structure N5 (nO : Nat) (w w' : World) (o gg gin gx ge : Nat) : Prop where
  os : w'.os = w.os
  tape : w'.tape = w.tape
  output : w'.output = w.output
  size : w.heap.size ≤ w'.heap.size
  block : ∀ k, k < nO → k ≠ o → k ≠ gg → k ≠ gin → k ≠ gx → k ≠ ge → w'.heap[k]? = w.heap[k]?
def OP (nO : Nat) (wB : World) (o gg gin gx ge : Nat) (P0 P1 P2 : List Ask) (Z0 Zc : List Int) (r : Ending) (w' : World) : Prop :=
  N5 nO wB w' o gg gin gx ge ∧ ∃ I G b x err gave, Res P0 P1 P2 Z0 Zc I G b x err ∧ NR nO w' gin gg I G ∧ Var w' gx (.bool b) 4 ∧ Var w' ge (.int .i64 x) 26 ∧ EndU w' o r gave err
/-- where things lie -/
def LYo (N0 n nO gn gg gin gx ge o gr : Nat) : Prop := gn = N0 ∧ gg = N0 + 1 ∧ gin = N0 + 2 ∧ gx = N0 + 3 ∧ ge = N0 + 4 ∧ N0 + 5 ≤ n ∧ o = n + 1 ∧ gr = n + 3 ∧ nO = n + 4
theorem op_bad {r : Ending} (L : LYo N0 n nO gn gg gin gx ge o gr) (Vi : Var wB gin (.slice none 0 0) 24) (Vx : Var wB gx (.bool false) 4) (Ve : Var wB ge (.int .i64 0) 26) (h : BadJ (PO nO) wB o gg P0 Z0 [] r w') : OP nO wB o gg gin gx ge P0 P1 P2 Z0 Zc r w' := by
  obtain ⟨l1, l2, l3, l4, l5, l6, l7, l8, l9⟩ := L
  obtain ⟨K, ⟨lg, ng, cg, Vg, Gg, hg⟩, he⟩ := h
  obtain ⟨c1, c2, c3, c4⟩ := rdT_calm P0 Z0
  rw [List.nil_append, ← c1] at Gg
  refine ⟨⟨K.os, K.tape, K.output, K.size, fun k a1 a2 a3 _ _ _ => K.block k a1 a2 a3⟩, [], (rdT P0 Z0).1, false, 0, (rdT P0 Z0).2.1, ?_⟩
  have kp : ∀ k, k < nO → k ≠ o → k ≠ gg → w'.heap[k]? = wB.heap[k]? := fun k a1 a2 a3 => K.block k a1 a2 a3
  have hNR : NR nO w' gin gg [] (rdT P0 Z0).1 := ⟨none, 0, 0, lg, ng, cg, (kp _ (by omega) (by omega) (by omega)).trans Vi, GR.nil _, Vg, Gg, (fun k e => by cases e), fun k e => by have := hg k e; unfold PO at this; omega⟩
  have vx : Var w' gx (.bool false) 4 := (kp _ (by omega) (by omega) (by omega)).trans Vx
  have ve : Var w' ge (.int .i64 0) 26 := (kp _ (by omega) (by omega) (by omega)).trans Ve
  rcases he with ⟨rfl, hne, hR⟩ | ⟨⟨v, rfl⟩, h0, hlt, so, sc, hR⟩
  · have := c2 hne
    rw [this]
    exact ⟨_, Or.inl ⟨by rw [this]; exact hne, rfl, rfl, rfl, this.symm⟩, hNR, vx, ve, EndU.up [] (Or.inl rfl) hR hne⟩
  · have := c3 h0
    rw [if_pos hlt] at this
    rw [this]
    exact ⟨_, Or.inl ⟨by rw [this]; decide, rfl, rfl, rfl, this.symm⟩, hNR, vx, ve, EndU.boom hR⟩
/-- the inner Read answers: the error is kept, 'answered' set -/
theorem op_ret {w7 w8 : World} {x : Int} (L : LYo N0 n nO gn gg gin gx ge o gr) (h0 : (rdT P0 Z0).2.1 = 0) (K : N5 nO wB w7 o gg gin gx ge) (Vx : Var w7 gx (.bool false) 4) (Ve : Var w7 ge (.int .i64 0) 26) (h : NP nO w7 o gg gin P1 P2 Zc (rdT P0 Z0).2.2 (rdT P0 Z0).1 (.returned (.int .i64 x)) w8) :
    Var w8 ge (.int .i64 0) 26 ∧ Var (w8.setCell ⟨ge, 0, none⟩ (.int .i64 x)) gx (.bool false) 4 ∧ OP nO wB o gg gin gx ge P0 P1 P2 Z0 Zc (.returned (.tuple #[])) ((w8.setCell ⟨ge, 0, none⟩ (.int .i64 x)).setCell ⟨gx, 0, none⟩ (.bool true)) := by
  obtain ⟨l1, l2, l3, l4, l5, l6, l7, l8, l9⟩ := L
  obtain ⟨NKk, hh⟩ := h
  have ve : Var w8 ge (.int .i64 0) 26 := (NKk.block _ (by omega) (by omega) (by omega) (by omega)).trans Ve
  have vx : Var w8 gx (.bool false) 4 := (NKk.block _ (by omega) (by omega) (by omega) (by omega)).trans Vx
  obtain ⟨wa, hwa⟩ : ∃ wa, w8.setCell ⟨ge, 0, none⟩ (.int .i64 x) = wa := ⟨_, rfl⟩
  have oa : ∀ k, k ≠ ge → wa.heap[k]? = w8.heap[k]? := fun k hk => by rw [← hwa]; exact set_other w8 ge 0 k _ hk
  have va : Var wa ge (.int .i64 x) 26 := by rw [← hwa]; exact set_heap w8 ge _ _ _ 0 _ ve
  have xa : Var wa gx (.bool false) 4 := (oa _ (by omega)).trans vx
  rw [hwa]
  obtain ⟨wb, hwb⟩ : ∃ wb, wa.setCell ⟨gx, 0, none⟩ (.bool true) = wb := ⟨_, rfl⟩
  have ob : ∀ k, k ≠ gx → wb.heap[k]? = wa.heap[k]? := fun k hk => by rw [← hwb]; exact set_other wa gx 0 k _ hk
  have xb : Var wb gx (.bool true) 4 := by rw [← hwb]; exact set_heap wa gx _ _ _ 0 _ xa
  have vb : Var wb ge (.int .i64 x) 26 := (ob _ (by omega)).trans va
  have oc : ∀ k, k ≠ ge → k ≠ gx → wb.heap[k]? = w8.heap[k]? := fun k h1 h2 => (ob k h2).trans (oa k h1)
  have sz : wb.heap.size = w8.heap.size := by rw [← hwb, set_size, ← hwa, set_size]
  have s1 := NKk.size
  have s2 := K.size
  rw [hwb]
  have hN : N5 nO wB wb o gg gin gx ge := by
    refine ⟨?_, ?_, ?_, by omega, fun k a1 a2 a3 a4 a5 a6 => (oc k a6 a5).trans ((NKk.block k a1 a2 a3 a4).trans (K.block k a1 a2 a3 a4 a5 a6))⟩
    · rw [← hwb, setCell_os, ← hwa, setCell_os]; exact NKk.os.trans K.os
    · rw [← hwb, setCell_tape, ← hwa, setCell_tape]; exact NKk.tape.trans K.tape
    · rw [← hwb, setCell_output, ← hwa, setCell_output]; exact NKk.output.trans K.output
  have nr : ∀ {I G : List Got}, NR nO w8 gin gg I G → NR nO wb gin gg I G := by
    rintro I G ⟨li, ni, ci, lg, ng, cg, a, b, c, d, e, f⟩
    exact ⟨li, ni, ci, lg, ng, cg, (oc _ (by omega) (by omega)).trans a, b.keep (fun k y => oc k (by have := (e k y).1; omega) (by have := (e k y).1; omega)), (oc _ (by omega) (by omega)).trans c, d.keep (fun k y => oc k (by have := f k y; omega) (by have := f k y; omega)), e, f⟩
  have rd : ∀ {so : Option Addr} {sn sc : Nat}, Rdr w8 o so sn sc 0 false → Rdr wb o so sn sc 0 false := fun R => (oc _ (by omega) (by omega)).trans R
  refine ⟨ve, xa, hN, ?_⟩
  rcases hh with ⟨m1, m2, m3, so, sc, m4⟩ | ⟨m1, m2, ⟨m3, m4, so, sc, m5⟩ | ⟨m3, m4, m5⟩⟩
  · have hx : x = (rdT P1 Zc).2.1 := by simpa using m2
    exact ⟨_, _, true, x, _, _, Or.inr ⟨h0, rfl, Or.inl ⟨m1, rfl, rfl, hx, rfl⟩⟩, nr m3, xb, vb, EndU.calm (rd m4)⟩
  · have hx : x = (if (calm P2).length < P2.length then 8 else endA (rdT P1 Zc).2.2.length) := by simpa using m4
    exact ⟨_, _, true, x, _, _, Or.inr ⟨h0, rfl, Or.inr ⟨m1, rfl, Or.inl ⟨m3, rfl, hx, rfl⟩⟩⟩, nr m2, xb, vb, EndU.calm (rd m5)⟩
  · cases m4
theorem op_pan {w7 w8 : World} {r : Ending} (L : LYo N0 n nO gn gg gin gx ge o gr) (h0 : (rdT P0 Z0).2.1 = 0) (K : N5 nO wB w7 o gg gin gx ge) (Vx : Var w7 gx (.bool false) 4) (Ve : Var w7 ge (.int .i64 0) 26) (h : NP nO w7 o gg gin P1 P2 Zc (rdT P0 Z0).2.2 (rdT P0 Z0).1 r w8) :
    (∃ x, r = .returned (.int .i64 x)) ∨ (r = .panicked (upL o false (caught o)) ∧ OP nO wB o gg gin gx ge P0 P1 P2 Z0 Zc (.panicked (upL o false (caught o))) w8) := by
  obtain ⟨l1, l2, l3, l4, l5, l6, l7, l8, l9⟩ := L
  obtain ⟨NKk, hh⟩ := h
  have ve : Var w8 ge (.int .i64 0) 26 := (NKk.block _ (by omega) (by omega) (by omega) (by omega)).trans Ve
  have vx : Var w8 gx (.bool false) 4 := (NKk.block _ (by omega) (by omega) (by omega) (by omega)).trans Vx
  have s1 := NKk.size
  have s2 := K.size
  rcases hh with ⟨m1, m2, m3, so, sc, m4⟩ | ⟨m1, m2, ⟨m3, m4, so, sc, m5⟩ | ⟨m3, m4, m5⟩⟩
  · exact Or.inl ⟨_, m2⟩
  · exact Or.inl ⟨_, m4⟩
  · exact Or.inr ⟨m4, ⟨NKk.os.trans K.os, NKk.tape.trans K.tape, NKk.output.trans K.output, by omega, fun k a1 a2 a3 a4 a5 a6 => (NKk.block k a1 a2 a3 a4).trans (K.block k a1 a2 a3 a4 a5 a6)⟩, _, _, false, 0, _, _, Or.inr ⟨h0, rfl, Or.inr ⟨m1, rfl, Or.inr ⟨m3, rfl, rfl⟩⟩⟩, m2, vx, ve, EndU.up _ (Or.inr rfl) m5 m3⟩
set_option maxRecDepth 100000 in
set_option maxHeartbeats 16000000 in
theorem outer_any (L : LYo N0 n nO gn gg gin gx ge o gr) (hz : w0.heap.size = gr) (hwB : w0.alloc (.cells #[ptr o] 25) = wB)
    (hT0 : TN (PO nO) wB o gg gn 2 gr o so0 sn0 sc0 P0) (hT1 : TN (PO nO) wB o gg gn 3 gr o so1 sn1 sc1 P1) (hT2 : TN (PO nO) wB o gg gn 4 gr o so2 sn2 sc2 P2) (h : CJ (PO nO) wB wB o gg bz ro rn rc Z0 none 0 0 [])
    (hf1 : sn1 ≠ 0 → ∀ k, blk so1 = some k → k < N0) (hf2 : sn2 ≠ 0 → ∀ k, blk so2 = some k → k < N0) (hbz : ∀ k, bz = some k → k ≠ gin) (hs0 : sn0 ≤ 1048576)
    (Vi : Var wB gin (.slice none 0 0) 24) (Vx : Var wB gx (.bool false) 4) (Ve : Var wB ge (.int .i64 0) 26)
    (nc : wB.cell? ⟨gn, 1, none⟩ = some (.slice co cn cc)) (SC : Src wB co cn cc Zc) (hcn : cn ≤ 1048576) (hco : cn ≠ 0 → ∀ k, blk co = some k → k < N0) :
    Calls Try.prog 19 #[ptr o, ptr gn, ptr gg, ptr gin, ptr ge, ptr gx] w0 fun r w' => OP nO wB o gg gin gx ge P0 P1 P2 Z0 Zc r w' := by
  have hmf : ∀ (fn : Fn) (first cap : Array Value) (w : World), (Instr.makeFunc fn first cap).run Try.prog w = .ok (.func fn first cap) w := fun _ _ _ _ => rfl
  have HC : Hid (JL (PO nO) wB wB o gg bz P0 Z0 [] 0) := ⟨ro, rn, rc, Z0, none, 0, 0, [], h, Nat.zero_le _, Nat.zero_le _, rfl⟩
  have HS := hide hT0
  have HP : Hid (P0.length = sn0) := hT0.qs.len
  have HL := hide L
  have HT := hide (And.intro hT1 hT2)
  have HV := hide (And.intro Vi (And.intro Vx Ve))
  have HF := hide (And.intro hf1 (And.intro hf2 (And.intro hbz hs0)))
  have HCo := hide (And.intro nc (And.intro SC (And.intro hcn hco)))
  clear h hT0 hT1 hT2 hf1 hf2 hbz hs0 Vi Vx Ve nc SC hcn hco L
  go_enter Try.func19, Try.ntmps19
  go_wp2_with fail
  clear hwB hz
  go_loopw [7] (fun i wr => ∃ k : Nat, k ≤ sn0 ∧ i = .int .i64 k ∧ Hid (JL (PO nO) wB wr o gg bz P0 Z0 [] k)) (fun i _ => sn0 - (intOf i).toNat)
  case atStart => exact ⟨0, Nat.zero_le _, rfl, HC⟩
  case round =>
    clear HC
    obtain ⟨ka, hka, rfl, HLa⟩ := hrel
    obtain ⟨roa, rna, rca, Za, loa, lna, lca, Ga, hI, hc, hln, hE⟩ := HLa.out
    have x1a := HS.out.nc' hI.kl.block
    have HIa := hide hI
    have HEa := hide hE
    have HCka := hide hc
    have HLna : Hid (lna ≤ 4000000 + ka) := hln
    clear hI hE hc hln
    by_cases hlt : ka < sn0
    · have HLTa := hide hlt
      obtain ⟨ada, had, -⟩ := HS.out.qs.at ka hlt
      obtain ⟨sa, hs⟩ : ∃ s, (P0).getD ka k0 = s := ⟨_, rfl⟩
      have HSSa : Hid (∀ W : World, (∀ j, (PO nO) j → j ≠ o → j ≠ gg → W.heap[j]? = (wB).heap[j]?) → NS gn 2 gr o (some ada) sn0 sc0 (ada.add (ka * 2)) sa W) := fun W hW => by
        have := HS.out.ss had hlt hW
        rw [hs, had] at this
        exact this
      have HK1a : Hid (wrap64 ((ka : Int) + 1) = ((ka + 1 : Nat) : Int)) := by show _ = _; have := HS.out.big; rw [w64 (by omega) (by omega)]; rfl
      have HBa : Hid (lna + 1 ≤ 4398046511004) := by show _ ≤ _; have := HS.out.big; have := HLna.out; omega
      have hiN : (ka : Int) < (sn0 : Int) := by omega
      subst had
      have ID := HIa.out.below (below_drew1 wr)
      have HIXa := hide ID
      have x0 := ID.v2.c
      clear ID
      by_cases h8 : sa.kind = 8
      · have H8a := hide h8
        have HC8a := hide (calm_eq P0 ka HCka.out (by rw [HP.out]; exact hlt) (by rw [hs]; exact h8))
        clear h8 hs hlt hka
        go_wp2_with fail
        refine wp_region_held_drew (S := NS gn 2 gr o (some ada) sn0 sc0 (ada.add (ka * 2)) sa) (by kernel_rfl) (HSSa.out _ HIXa.out.kl.block) (fun hHeld => ?_)
        refine wpAnyH_take (i := 1) (oi := { dst := some 16, op := Op.load 25 (Operand.tmp 6), type := 25, pos := "law.go:173", after := #[], guard := none }) (v := ?_) rfl (by kernel_rfl) (by kernel_rfl) (by kernel_rfl) (fun _ _ _ h => h) (Or.inl ⟨by rfl, ?_⟩) (by assumption) ?_
        rotate_left
        · (intro w hSw; (try dsimp only at hSw); have h2 := hSw.2.1; go_simp); first | done | with_reducible rfl
        simp only [Act.put, List.setIfInBounds_toArray, List.set_cons_zero, List.set_cons_succ]
        refine wpAnyH_take (i := 2) (oi := { dst := some 17, op := Op.fieldAddr 54 (Operand.tmp 1) 2, type := 0, pos := "law.go:173", after := #[], guard := none }) (v := ?_) rfl (by kernel_rfl) (by kernel_rfl) (by kernel_rfl) (fun _ _ _ h => h) (Or.inl ⟨by rfl, ?_⟩) (by assumption) ?_
        rotate_left
        · (intro w hSw; (try dsimp only at hSw); go_simp); first | done | with_reducible rfl
        simp only [Act.put, List.setIfInBounds_toArray, List.set_cons_zero, List.set_cons_succ]
        refine wpAnyH_take (i := 3) (oi := { dst := some 18, op := Op.load 23 (Operand.tmp 17), type := 23, pos := "law.go:173", after := #[{ on := 2, ground := Ground.data }], guard := none }) (v := ?_) rfl (by kernel_rfl) (by kernel_rfl) (by kernel_rfl) (fun _ _ _ h => h) (Or.inl ⟨by rfl, ?_⟩) (by assumption) ?_
        rotate_left
        · (intro w hSw; (try dsimp only at hSw); have h1 := hSw.1; go_simp); first | done | with_reducible rfl
        simp only [Act.put, List.setIfInBounds_toArray, List.set_cons_zero, List.set_cons_succ]
        refine wpAnyH_take (i := 4) (oi := { dst := some 19, op := Op.move (Operand.tmp 7), type := 3, pos := "law.go:173", after := #[], guard := none }) (v := ?_) rfl (by kernel_rfl) (by kernel_rfl) (by kernel_rfl) (fun _ _ _ h => h) (Or.inl ⟨by rfl, ?_⟩) (by assumption) ?_
        rotate_left
        · (intro w hSw; (try dsimp only at hSw); go_simp); first | done | with_reducible rfl
        simp only [Act.put, List.setIfInBounds_toArray, List.set_cons_zero, List.set_cons_succ]
        refine wpAnyH_take (i := 5) (oi := { dst := some 20, op := Op.indexAddr 23 (Operand.tmp 18) (Operand.tmp 19), type := 0, pos := "law.go:173", after := #[{ on := 3, ground := Ground.data }, { on := 4, ground := Ground.data }], guard := none }) (v := ?_) rfl (by kernel_rfl) (by kernel_rfl) (by kernel_rfl) (fun _ _ _ h => h) (Or.inl ⟨by rfl, ?_⟩) (by assumption) ?_
        rotate_left
        · (intro w hSw; (try dsimp only at hSw); go_simp); first | done | with_reducible rfl
        simp only [Act.put, List.setIfInBounds_toArray, List.set_cons_zero, List.set_cons_succ]
        refine wpAnyH_take (i := 6) (oi := { dst := some 21, op := Op.load 32 (Operand.tmp 20), type := 32, pos := "law.go:173", after := #[{ on := 5, ground := Ground.data }], guard := none }) (v := ?_) rfl (by kernel_rfl) (by kernel_rfl) (by kernel_rfl) (fun _ _ _ h => h) (Or.inl ⟨by rfl, ?_⟩) (by assumption) ?_
        rotate_left
        · (intro w hSw; (try dsimp only at hSw); have h3 := run_laK hSw.2.2; go_simp); first | done | with_reducible rfl
        simp only [Act.put, List.setIfInBounds_toArray, List.set_cons_zero, List.set_cons_succ]
        refine wpAnyH_ready (rs := [0, 7]) (by kernel_rfl) (by simp) ?_
        refine AllReadyH.cons rfl (fun K hK => ?_) (AllReadyH.cons rfl (fun K hK => ?_) AllReadyH.nil)
        · go_simp
          refine hK.out _ _ (HSSa.out _ HIXa.out.kl.block) (fun hHeld => ?_)
          clear hK K
          refine wpAnyH_ready (rs := [7]) (by kernel_rfl) (by simp) ?_
          refine AllReadyH.cons rfl (fun K hK => ?_) ?_
          rotate_left
          · exact AllReadyH.nil
          go_simp
          go_wp2_with fail
          have HAk : Hid (Calls Try.prog 8 #[ptr o, .agg (KC sa)] wr.drew fun r w' => (∃ v, r = .panicked (bmE v false)) ∧ Below wr.drew.heap.size wr.drew w') := by
            have := ask8_boom (n := sa.n) HIXa.out.rl
            rw [← H8a.out] at this
            exact this
          refine HAk.out.mono ?_
          rintro r w2 ⟨⟨v, rfl⟩, b2⟩
          have hB := boom_of (v := v) (HIXa.out.below b2) HEa.out HC8a.out (by rw [HP.out]; exact HLTa.out)
          have HFn : Hid (OP nO wB o gg gin gx ge P0 P1 P2 Z0 Zc _ _) := op_bad HL.out HV.out.1 HV.out.2.1 HV.out.2.2 hB
          clear b2 HAk hB
          go_wp2_with fail
          exact ⟨rfl, HFn.out⟩
        · go_simp
          go_wp2_with fail
          have HAk : Hid (Calls Try.prog 8 #[ptr o, .agg (KC sa)] wr.drew fun r w' => (∃ v, r = .panicked (bmE v false)) ∧ Below wr.drew.heap.size wr.drew w') := by
            have := ask8_boom (n := sa.n) HIXa.out.rl
            rw [← H8a.out] at this
            exact this
          refine HAk.out.mono ?_
          rintro r w2 ⟨⟨v, rfl⟩, b2⟩
          have hB := boom_of (v := v) (HIXa.out.below b2) HEa.out HC8a.out (by rw [HP.out]; exact HLTa.out)
          have HFn : Hid (OP nO wB o gg gin gx ge P0 P1 P2 Z0 Zc _ _) := op_bad HL.out HV.out.1 HV.out.2.1 HV.out.2.2 hB
          clear b2 HAk hB
          go_wp2_with fail
          exact ⟨rfl, HFn.out⟩
      · have H8a := hide h8
        have hcl := calm_lt P0 ka HCka.out (by rw [HP.out]; exact hlt) (by rw [hs]; exact h8)
        have HDa := hide (rdT_step hcl.1 (hcl.2.trans hs))
        have HCla := hide hcl.1
        clear h8 hs hcl hlt hka
        by_cases hp : aE Za sa.kind sa.n = 0
        · have HPra := hide hp
          clear hp
          go_wp2_with fail
          refine wp_region_held_drew (S := NS gn 2 gr o (some ada) sn0 sc0 (ada.add (ka * 2)) sa) (by kernel_rfl) (HSSa.out _ HIXa.out.kl.block) (fun hHeld => ?_)
          refine wpAnyH_take (i := 1) (oi := { dst := some 16, op := Op.load 25 (Operand.tmp 6), type := 25, pos := "law.go:173", after := #[], guard := none }) (v := ?_) rfl (by kernel_rfl) (by kernel_rfl) (by kernel_rfl) (fun _ _ _ h => h) (Or.inl ⟨by rfl, ?_⟩) (by assumption) ?_
          rotate_left
          · (intro w hSw; (try dsimp only at hSw); have h2 := hSw.2.1; go_simp); first | done | with_reducible rfl
          simp only [Act.put, List.setIfInBounds_toArray, List.set_cons_zero, List.set_cons_succ]
          refine wpAnyH_take (i := 2) (oi := { dst := some 17, op := Op.fieldAddr 54 (Operand.tmp 1) 2, type := 0, pos := "law.go:173", after := #[], guard := none }) (v := ?_) rfl (by kernel_rfl) (by kernel_rfl) (by kernel_rfl) (fun _ _ _ h => h) (Or.inl ⟨by rfl, ?_⟩) (by assumption) ?_
          rotate_left
          · (intro w hSw; (try dsimp only at hSw); go_simp); first | done | with_reducible rfl
          simp only [Act.put, List.setIfInBounds_toArray, List.set_cons_zero, List.set_cons_succ]
          refine wpAnyH_take (i := 3) (oi := { dst := some 18, op := Op.load 23 (Operand.tmp 17), type := 23, pos := "law.go:173", after := #[{ on := 2, ground := Ground.data }], guard := none }) (v := ?_) rfl (by kernel_rfl) (by kernel_rfl) (by kernel_rfl) (fun _ _ _ h => h) (Or.inl ⟨by rfl, ?_⟩) (by assumption) ?_
          rotate_left
          · (intro w hSw; (try dsimp only at hSw); have h1 := hSw.1; go_simp); first | done | with_reducible rfl
          simp only [Act.put, List.setIfInBounds_toArray, List.set_cons_zero, List.set_cons_succ]
          refine wpAnyH_take (i := 4) (oi := { dst := some 19, op := Op.move (Operand.tmp 7), type := 3, pos := "law.go:173", after := #[], guard := none }) (v := ?_) rfl (by kernel_rfl) (by kernel_rfl) (by kernel_rfl) (fun _ _ _ h => h) (Or.inl ⟨by rfl, ?_⟩) (by assumption) ?_
          rotate_left
          · (intro w hSw; (try dsimp only at hSw); go_simp); first | done | with_reducible rfl
          simp only [Act.put, List.setIfInBounds_toArray, List.set_cons_zero, List.set_cons_succ]
          refine wpAnyH_take (i := 5) (oi := { dst := some 20, op := Op.indexAddr 23 (Operand.tmp 18) (Operand.tmp 19), type := 0, pos := "law.go:173", after := #[{ on := 3, ground := Ground.data }, { on := 4, ground := Ground.data }], guard := none }) (v := ?_) rfl (by kernel_rfl) (by kernel_rfl) (by kernel_rfl) (fun _ _ _ h => h) (Or.inl ⟨by rfl, ?_⟩) (by assumption) ?_
          rotate_left
          · (intro w hSw; (try dsimp only at hSw); go_simp); first | done | with_reducible rfl
          simp only [Act.put, List.setIfInBounds_toArray, List.set_cons_zero, List.set_cons_succ]
          refine wpAnyH_take (i := 6) (oi := { dst := some 21, op := Op.load 32 (Operand.tmp 20), type := 32, pos := "law.go:173", after := #[{ on := 5, ground := Ground.data }], guard := none }) (v := ?_) rfl (by kernel_rfl) (by kernel_rfl) (by kernel_rfl) (fun _ _ _ h => h) (Or.inl ⟨by rfl, ?_⟩) (by assumption) ?_
          rotate_left
          · (intro w hSw; (try dsimp only at hSw); have h3 := run_laK hSw.2.2; go_simp); first | done | with_reducible rfl
          simp only [Act.put, List.setIfInBounds_toArray, List.set_cons_zero, List.set_cons_succ]
          refine wpAnyH_ready (rs := [0, 7]) (by kernel_rfl) (by simp) ?_
          refine AllReadyH.cons rfl (fun K hK => ?_) (AllReadyH.cons rfl (fun K hK => ?_) AllReadyH.nil)
          · go_simp
            refine hK.out _ _ (HSSa.out _ HIXa.out.kl.block) (fun hHeld => ?_)
            clear hK K
            refine wpAnyH_ready (rs := [7]) (by kernel_rfl) (by simp) ?_
            refine AllReadyH.cons rfl (fun K hK => ?_) ?_
            rotate_left
            · exact AllReadyH.nil
            go_simp
            go_wp2_with fail
            refine (askT_ok HIXa.out.rl HPra.out).mono ?_
            rintro r w2 ⟨rfl, M2⟩
            obtain ⟨so2', sc2', IA⟩ := HIXa.out.ask M2
            have HIAa := hide IA
            have x0a := IA.v2.c
            have IL := IA.below (below_new w2 (.cells (GC (aG Za sa.kind)) 29))
            have HILa := hide IL
            have x0l := IL.v2.c
            obtain ⟨bo, c2, w4, hrun, R4, A4⟩ := IA.gr.runs (L := [aG Za sa.kind]) (cs := GC (aG Za sa.kind)) (m := 1) rfl (gcs_lit _) HBa.out 24
            have IB := HIAa.out.app R4 A4
            have HI4a := hide IB
            have y4 := IB.1.c
            have z4 := IB.1.z
            clear M2 IA IL IB R4 A4
            refine hK.out _ _ (HSSa.out _ HIAa.out.kl.block) (fun hHeld => ?_)
            clear hK K
            refine wpAnyH_ready (rs := [8]) (by kernel_rfl) (by simp) ?_
            refine AllReadyH.cons rfl (fun K hK => ?_) ?_
            rotate_left
            · exact AllReadyH.nil
            go_simp
            refine hK.out _ _ (HSSa.out _ HILa.out.kl.block) (fun hHeld => ?_)
            clear hK K
            refine wpAnyH_ready (rs := [9]) (by kernel_rfl) (by simp) ?_
            refine AllReadyH.cons rfl (fun K hK => ?_) ?_
            rotate_left
            · exact AllReadyH.nil
            refine step_appG rfl (.tmp 15) (.tmp 23) rfl rfl rfl hrun ?_
            simp only [Act.put, List.setIfInBounds_toArray]
            refine hK.out _ _ (HSSa.out _ (fun j h1 h2 h3 => (HI4a.out.2.1 j h1).trans (HIAa.out.kl.block j h1 h2 h3))) (fun hHeld => ?_)
            clear hK K
            refine wpAnyH_ready (rs := [10]) (by kernel_rfl) (by simp) ?_
            refine AllReadyH.cons rfl (fun K hK => ?_) ?_
            rotate_left
            · exact AllReadyH.nil
            go_simp
            refine hK.out _ _ (HSSa.out _ HI4a.out.2.2.kl.block) (fun hHeld => ?_)
            clear hK K
            refine wpAnyH_done (by kernel_rfl) ?_ _
            clear hHeld
            have HI5 := hide HI4a.out.2.2
            clear HIa HIXa HIAa HILa HI4a
            go_wp2_with fail
            go_roundw
            case rel => exact ⟨ka + 1, HLTa.out, (by rw [HK1a.out]), _, _, _, _, _, _, _, Ga ++ [aG Za sa.kind], (by rw [← List.append_assoc]; exact HI5.out), HCla.out, (by have := HLna.out; omega), (by rw [HEa.out, HDa.out, rdT_ok HPra.out]; simp)⟩
            case measure => rw [HK1a.out]; have := HLTa.out; simp [intOf]; omega
          · go_simp
            go_wp2_with fail
            refine (askT_ok HIXa.out.rl HPra.out).mono ?_
            rintro r w2 ⟨rfl, M2⟩
            obtain ⟨so2', sc2', IA⟩ := HIXa.out.ask M2
            have HIAa := hide IA
            have x0a := IA.v2.c
            have IL := IA.below (below_new w2 (.cells (GC (aG Za sa.kind)) 29))
            have HILa := hide IL
            have x0l := IL.v2.c
            obtain ⟨bo, c2, w4, hrun, R4, A4⟩ := IA.gr.runs (L := [aG Za sa.kind]) (cs := GC (aG Za sa.kind)) (m := 1) rfl (gcs_lit _) HBa.out 24
            have IB := HIAa.out.app R4 A4
            have HI4a := hide IB
            have y4 := IB.1.c
            have z4 := IB.1.z
            clear M2 IA IL IB R4 A4
            refine hK.out _ _ (HSSa.out _ HIAa.out.kl.block) (fun hHeld => ?_)
            clear hK K
            refine wpAnyH_ready (rs := [0, 8]) (by kernel_rfl) (by simp) ?_
            refine AllReadyH.cons rfl (fun K hK => ?_) (AllReadyH.cons rfl (fun K hK => ?_) AllReadyH.nil)
            · go_simp
              refine hK.out _ _ (HSSa.out _ HIAa.out.kl.block) (fun hHeld => ?_)
              clear hK K
              refine wpAnyH_ready (rs := [8]) (by kernel_rfl) (by simp) ?_
              refine AllReadyH.cons rfl (fun K hK => ?_) ?_
              rotate_left
              · exact AllReadyH.nil
              go_simp
              refine hK.out _ _ (HSSa.out _ HILa.out.kl.block) (fun hHeld => ?_)
              clear hK K
              refine wpAnyH_ready (rs := [9]) (by kernel_rfl) (by simp) ?_
              refine AllReadyH.cons rfl (fun K hK => ?_) ?_
              rotate_left
              · exact AllReadyH.nil
              refine step_appG rfl (.tmp 15) (.tmp 23) rfl rfl rfl hrun ?_
              simp only [Act.put, List.setIfInBounds_toArray]
              refine hK.out _ _ (HSSa.out _ (fun j h1 h2 h3 => (HI4a.out.2.1 j h1).trans (HIAa.out.kl.block j h1 h2 h3))) (fun hHeld => ?_)
              clear hK K
              refine wpAnyH_ready (rs := [10]) (by kernel_rfl) (by simp) ?_
              refine AllReadyH.cons rfl (fun K hK => ?_) ?_
              rotate_left
              · exact AllReadyH.nil
              go_simp
              refine hK.out _ _ (HSSa.out _ HI4a.out.2.2.kl.block) (fun hHeld => ?_)
              clear hK K
              refine wpAnyH_done (by kernel_rfl) ?_ _
              clear hHeld
              have HI5 := hide HI4a.out.2.2
              clear HIa HIXa HIAa HILa HI4a
              go_wp2_with fail
              go_roundw
              case rel => exact ⟨ka + 1, HLTa.out, (by rw [HK1a.out]), _, _, _, _, _, _, _, Ga ++ [aG Za sa.kind], (by rw [← List.append_assoc]; exact HI5.out), HCla.out, (by have := HLna.out; omega), (by rw [HEa.out, HDa.out, rdT_ok HPra.out]; simp)⟩
              case measure => rw [HK1a.out]; have := HLTa.out; simp [intOf]; omega
            · go_simp
              refine hK.out _ _ (HSSa.out _ HILa.out.kl.block) (fun hHeld => ?_)
              clear hK K
              refine wpAnyH_ready (rs := [0]) (by kernel_rfl) (by simp) ?_
              refine AllReadyH.cons rfl (fun K hK => ?_) ?_
              rotate_left
              · exact AllReadyH.nil
              go_simp
              refine hK.out _ _ (HSSa.out _ HILa.out.kl.block) (fun hHeld => ?_)
              clear hK K
              refine wpAnyH_ready (rs := [9]) (by kernel_rfl) (by simp) ?_
              refine AllReadyH.cons rfl (fun K hK => ?_) ?_
              rotate_left
              · exact AllReadyH.nil
              refine step_appG rfl (.tmp 15) (.tmp 23) rfl rfl rfl hrun ?_
              simp only [Act.put, List.setIfInBounds_toArray]
              refine hK.out _ _ (HSSa.out _ (fun j h1 h2 h3 => (HI4a.out.2.1 j h1).trans (HIAa.out.kl.block j h1 h2 h3))) (fun hHeld => ?_)
              clear hK K
              refine wpAnyH_ready (rs := [10]) (by kernel_rfl) (by simp) ?_
              refine AllReadyH.cons rfl (fun K hK => ?_) ?_
              rotate_left
              · exact AllReadyH.nil
              go_simp
              refine hK.out _ _ (HSSa.out _ HI4a.out.2.2.kl.block) (fun hHeld => ?_)
              clear hK K
              refine wpAnyH_done (by kernel_rfl) ?_ _
              clear hHeld
              have HI5 := hide HI4a.out.2.2
              clear HIa HIXa HIAa HILa HI4a
              go_wp2_with fail
              go_roundw
              case rel => exact ⟨ka + 1, HLTa.out, (by rw [HK1a.out]), _, _, _, _, _, _, _, Ga ++ [aG Za sa.kind], (by rw [← List.append_assoc]; exact HI5.out), HCla.out, (by have := HLna.out; omega), (by rw [HEa.out, HDa.out, rdT_ok HPra.out]; simp)⟩
              case measure => rw [HK1a.out]; have := HLTa.out; simp [intOf]; omega
        · have HPra := hide hp
          clear hp
          go_wp2_with fail
          refine wp_region_held_drew (S := NS gn 2 gr o (some ada) sn0 sc0 (ada.add (ka * 2)) sa) (by kernel_rfl) (HSSa.out _ HIXa.out.kl.block) (fun hHeld => ?_)
          refine wpAnyH_take (i := 1) (oi := { dst := some 16, op := Op.load 25 (Operand.tmp 6), type := 25, pos := "law.go:173", after := #[], guard := none }) (v := ?_) rfl (by kernel_rfl) (by kernel_rfl) (by kernel_rfl) (fun _ _ _ h => h) (Or.inl ⟨by rfl, ?_⟩) (by assumption) ?_
          rotate_left
          · (intro w hSw; (try dsimp only at hSw); have h2 := hSw.2.1; go_simp); first | done | with_reducible rfl
          simp only [Act.put, List.setIfInBounds_toArray, List.set_cons_zero, List.set_cons_succ]
          refine wpAnyH_take (i := 2) (oi := { dst := some 17, op := Op.fieldAddr 54 (Operand.tmp 1) 2, type := 0, pos := "law.go:173", after := #[], guard := none }) (v := ?_) rfl (by kernel_rfl) (by kernel_rfl) (by kernel_rfl) (fun _ _ _ h => h) (Or.inl ⟨by rfl, ?_⟩) (by assumption) ?_
          rotate_left
          · (intro w hSw; (try dsimp only at hSw); go_simp); first | done | with_reducible rfl
          simp only [Act.put, List.setIfInBounds_toArray, List.set_cons_zero, List.set_cons_succ]
          refine wpAnyH_take (i := 3) (oi := { dst := some 18, op := Op.load 23 (Operand.tmp 17), type := 23, pos := "law.go:173", after := #[{ on := 2, ground := Ground.data }], guard := none }) (v := ?_) rfl (by kernel_rfl) (by kernel_rfl) (by kernel_rfl) (fun _ _ _ h => h) (Or.inl ⟨by rfl, ?_⟩) (by assumption) ?_
          rotate_left
          · (intro w hSw; (try dsimp only at hSw); have h1 := hSw.1; go_simp); first | done | with_reducible rfl
          simp only [Act.put, List.setIfInBounds_toArray, List.set_cons_zero, List.set_cons_succ]
          refine wpAnyH_take (i := 4) (oi := { dst := some 19, op := Op.move (Operand.tmp 7), type := 3, pos := "law.go:173", after := #[], guard := none }) (v := ?_) rfl (by kernel_rfl) (by kernel_rfl) (by kernel_rfl) (fun _ _ _ h => h) (Or.inl ⟨by rfl, ?_⟩) (by assumption) ?_
          rotate_left
          · (intro w hSw; (try dsimp only at hSw); go_simp); first | done | with_reducible rfl
          simp only [Act.put, List.setIfInBounds_toArray, List.set_cons_zero, List.set_cons_succ]
          refine wpAnyH_take (i := 5) (oi := { dst := some 20, op := Op.indexAddr 23 (Operand.tmp 18) (Operand.tmp 19), type := 0, pos := "law.go:173", after := #[{ on := 3, ground := Ground.data }, { on := 4, ground := Ground.data }], guard := none }) (v := ?_) rfl (by kernel_rfl) (by kernel_rfl) (by kernel_rfl) (fun _ _ _ h => h) (Or.inl ⟨by rfl, ?_⟩) (by assumption) ?_
          rotate_left
          · (intro w hSw; (try dsimp only at hSw); go_simp); first | done | with_reducible rfl
          simp only [Act.put, List.setIfInBounds_toArray, List.set_cons_zero, List.set_cons_succ]
          refine wpAnyH_take (i := 6) (oi := { dst := some 21, op := Op.load 32 (Operand.tmp 20), type := 32, pos := "law.go:173", after := #[{ on := 5, ground := Ground.data }], guard := none }) (v := ?_) rfl (by kernel_rfl) (by kernel_rfl) (by kernel_rfl) (fun _ _ _ h => h) (Or.inl ⟨by rfl, ?_⟩) (by assumption) ?_
          rotate_left
          · (intro w hSw; (try dsimp only at hSw); have h3 := run_laK hSw.2.2; go_simp); first | done | with_reducible rfl
          simp only [Act.put, List.setIfInBounds_toArray, List.set_cons_zero, List.set_cons_succ]
          refine wpAnyH_ready (rs := [0, 7]) (by kernel_rfl) (by simp) ?_
          refine AllReadyH.cons rfl (fun K hK => ?_) (AllReadyH.cons rfl (fun K hK => ?_) AllReadyH.nil)
          · go_simp
            refine hK.out _ _ (HSSa.out _ HIXa.out.kl.block) (fun hHeld => ?_)
            clear hK K
            refine wpAnyH_ready (rs := [7]) (by kernel_rfl) (by simp) ?_
            refine AllReadyH.cons rfl (fun K hK => ?_) ?_
            rotate_left
            · exact AllReadyH.nil
            go_simp
            go_wp2_with fail
            refine (askT_bad HIXa.out.rl H8a.out rfl HPra.out).mono ?_
            rintro r w2 ⟨rfl, hG⟩
            have hB := bad_of HIXa.out HEa.out HDa.out rfl HPra.out hG
            have HFn : Hid (OP nO wB o gg gin gx ge P0 P1 P2 Z0 Zc _ _) := op_bad HL.out HV.out.1 HV.out.2.1 HV.out.2.2 hB
            clear hG hB
            go_wp2_with fail
            exact ⟨rfl, HFn.out⟩
          · go_simp
            go_wp2_with fail
            refine (askT_bad HIXa.out.rl H8a.out rfl HPra.out).mono ?_
            rintro r w2 ⟨rfl, hG⟩
            have hB := bad_of HIXa.out HEa.out HDa.out rfl HPra.out hG
            have HFn : Hid (OP nO wB o gg gin gx ge P0 P1 P2 Z0 Zc _ _) := op_bad HL.out HV.out.1 HV.out.2.1 HV.out.2.2 hB
            clear hG hB
            go_wp2_with fail
            exact ⟨rfl, HFn.out⟩
    · have hiN : ¬ (ka : Int) < (sn0 : Int) := by omega
      have HGa := hide (HLa.out.done (by rw [HP.out]; omega))
      clear hlt hka HIa HEa HCka HLna HLa
      obtain ⟨e1, e2, ro', rc', lo', ln', lc', hJ⟩ := HGa.out
      rw [List.nil_append] at hJ
      have HJ := hide hJ
      have H0 : Hid ((rdT P0 Z0).2.1 = 0) := e2
      have HLd := hide HL.out
      have hkb : ∀ k, k < nO → k ≠ o → k ≠ gg → wr.heap[k]? = wB.heap[k]? := fun k a1 a2 a3 => hJ.kl.block k a1 a2 a3
      have HKB := hide hkb
      obtain ⟨l1, l2, l3, l4, l5, l6, l7, l8, l9⟩ := HL.out
      have bn := below_new wr (.cells #[] 5)
      have hlt : nO ≤ wr.heap.size := by
        have := hJ.lt gr (show gr < nO by omega)
        omega
      have HLt : Hid (nO ≤ wr.heap.size) := hlt
      have yc : (wr.alloc (.cells #[] 5)).cell? ⟨gn, 1, none⟩ = some (.slice co cn cc) := by
        rw [World.cell?_of_block (w := wr) (bn.block gn (by omega)), World.cell?_of_block (w := wB) (hkb gn (by omega) (by omega) (by omega))]
        exact HCo.out.1
      have HSc : Hid (Src wr co cn cc Zc) := srcKeep HCo.out.2.1 (fun h0 k e => by have := HCo.out.2.2.2 h0 k e; exact hkb k (by omega) (by omega) (by omega))
      have HLit := hide (BR.lit wr)
      have HBs := hide ((HSc.out.below bn).bs)
      have HN0 : Hid (0 + cn ≤ 140737488355328) := by show _ ≤ _; have := HCo.out.2.2.1; omega
      have HLn : Hid (ln' ≤ 4000000) := by
        show _ ≤ _
        have h1 := hJ.gr.len
        have h2 := rdJ_len P0 Z0
        have h3 := HP.out
        have h4 := HF.out.2.2.2
        omega
      clear e1 e2 hJ hkb bn hlt l1 l2 l3 l4 l5 l6 l7 l8 l9 HS HGa
      go_wp2_with (at_builtin; refine HLit.out.appB HBs.out HN0.out rfl (.tmp 25) (.tmp 27) rfl rfl rfl ?_; intro b7 c7 w7 B7 A7; rw [Nat.zero_add] at B7 ⊢; rw [List.nil_append] at B7; have HB7 := hide B7; have HA7 := hide A7.fresh; clear B7 A7)
      have HJ7 := hide (HJ.out.below HA7.out.1)
      have HK7 : Hid (N5 nO wB w7 o gg gin gx ge) := ⟨HJ7.out.kl.os, HJ7.out.kl.tape, HJ7.out.kl.output, HJ7.out.kl.size, fun k a1 a2 a3 _ _ _ => HJ7.out.kl.block k a1 a2 a3⟩
      have HV7 : Hid (Var w7 gin (.slice none 0 0) 24 ∧ Var w7 gx (.bool false) 4 ∧ Var w7 ge (.int .i64 0) 26) := by
        obtain ⟨l1, l2, l3, l4, l5, l6, l7, l8, l9⟩ := HL.out
        have kb : ∀ k, k < nO → k ≠ o → k ≠ gg → w7.heap[k]? = wB.heap[k]? := fun k a1 a2 a3 => HJ7.out.kl.block k a1 a2 a3
        exact ⟨(kb _ (by omega) (by omega) (by omega)).trans HV.out.1, (kb _ (by omega) (by omega) (by omega)).trans HV.out.2.1, (kb _ (by omega) (by omega) (by omega)).trans HV.out.2.2⟩
      have HNe : Hid (Calls Try.prog 6 #[.slice b7 cn c7, .func (.func 20) #[] #[ptr gn, ptr gin, ptr gg, ptr gr]] w7 fun r w' => NP nO w7 o gg gin P1 P2 Zc (rdT P0 Z0).2.2 (rdT P0 Z0).1 r w') := by
        obtain ⟨l1, l2, l3, l4, l5, l6, l7, l8, l9⟩ := HL.out
        have hs7 := HA7.out.1.size
        have hs8 := HLt.out
        refine nest_any w7 HJ7.out (HT.out.1.kj HJ7.out.kl.block) (HT.out.2.kj HJ7.out.kl.block) HV7.out.1 ⟨by omega, by omega, by omega, by omega, by omega⟩ (fun h0 k e => by have := HF.out.1 h0 k e; omega) (fun h0 k e => by have := HF.out.2.1 h0 k e; omega) (fun _ k e => HF.out.2.2.1 k e) (by omega) HLn.out ⟨HB7.out.bs.len, HB7.out.bs.nil, HB7.out.bs.cell, HSc.out.2.2.2⟩ HB7.out.cap (by have := HCo.out.2.2.1; omega) (fun _ k e => by have := HA7.out.2 k e; omega)
      clear HLit HBs HN0 yc HKB HJ HSc x1a
      go_wp2_with fail
      refine HNe.out.mono ?_
      intro r w8 hN
      rcases op_pan HL.out H0.out HK7.out HV7.out.2.1 HV7.out.2.2 hN with ⟨x, rfl⟩ | ⟨rfl, hO⟩
      · obtain ⟨ve, xa, hO⟩ := op_ret HL.out H0.out HK7.out HV7.out.2.1 HV7.out.2.2 hN
        have y0 := ve.c
        have y1 := ve.z
        have y2 := xa.c
        have y3 := xa.z
        have HFn := hide hO
        clear hN ve xa hO
        go_wp2_with fail
        go_end0
        exact HFn.out
      · have HFn := hide hO
        clear hN hO
        go_wp2_with fail
        exact ⟨rfl, HFn.out⟩
end Go.Proofs.Ytflinfmhmokfhaa
