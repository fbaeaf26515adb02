/- ZPu FRt -/
import Derived.Test.YtbmjiedpaffifaaGreatDb35
import Derived.Test.YtbmjiedpaffifaaGreatDb25
import Derived.Test.YtbmjiedpaffifaaGreatDb27
import Derived.Test.YtbmjiedpaffifaaGreatDb26
namespace Go.Proofs.YtbmjiedpaffifaaGreat
open Go.RowKit
attribute [local go_sem ↓] ldP_eq stP_eq ldDi_eq stDi_eq
attribute [local go_sem] cells_PV PC_size cells_DiV DiC_size
variable {w w' w2 W W' : World} {g : Nat}

theorem szPst : (Tryz.prog.info? 25).map (·.size) = some 2 := by kernel_rfl
theorem DiBox.fz {m : DigV} (h : DiBox w g m) (j : Nat) : w.frozen? ⟨g, j, none⟩ = false := by unfold DiBox at h; simp [World.frozen?, h]
theorem run_stPH {d : Dg} (p : Pv) (A : DiBox w g (mkD d)) : ∃ w', (stP (.pointer (some ⟨g, 0, none⟩)) (PV p)).run Tryz.prog w = .ok () w' ∧ DiBox w' g (mkD ⟨p, d.l⟩) ∧ U.Kg w w' g := by
  have ht : w.there g 0 (PC p).size := fun j hj => by
    have hj : j < 2 := hj
    refine ⟨?_, A.fz _⟩
    rcases (show j = 0 ∨ j = 1 by omega) with rfl | rfl
    · rw [Nat.add_zero, A.c0]; rfl
    · rw [show 0 + 1 = 1 from rfl, A.c1]; rfl
  refine ⟨_, run_storeAt_mid (P := Tryz.prog) w g 0 25 (PC p) ht szPst (by simp [PC, Value.oneCell']), ?_, ?_⟩
  · exact U.set_heap _ g _ _ _ 1 _ (U.set_heap w g _ _ _ 0 _ A)
  · exact ((U.Kg.refl w g).set 0 _).set 1 _
theorem run_stPL {d : Dg} (p : Pv) (A : DiBox w g (mkD d)) : ∃ w', (stP (.pointer (some ⟨g, 2, none⟩)) (PV p)).run Tryz.prog w = .ok () w' ∧ DiBox w' g (mkD ⟨d.h, p⟩) ∧ U.Kg w w' g := by
  have ht : w.there g 2 (PC p).size := fun j hj => by
    have hj : j < 2 := hj
    refine ⟨?_, A.fz _⟩
    rcases (show j = 0 ∨ j = 1 by omega) with rfl | rfl
    · rw [Nat.add_zero, A.c2]; rfl
    · rw [show 2 + 1 = 3 from rfl, A.c3]; rfl
  refine ⟨_, run_storeAt_mid (P := Tryz.prog) w g 2 25 (PC p) ht szPst (by simp [PC, Value.oneCell']), ?_, ?_⟩
  · exact U.set_heap _ g _ _ _ 3 _ (U.set_heap w g _ _ _ 2 _ A)
  · exact ((U.Kg.refl w g).set 2 _).set 3 _
/-- a past's frame, a digest's bytes -/
def frB (P : Pst) : List Int := U.numB (pastB P).length ++ pastB P
def digB (H L : Pst) : List Int := frB H ++ frB L
theorem digB_join (H L : Pst) : U.joinB [pastB H, pastB L] = digB H L := by simp [U.joinB, digB, frB]
theorem frB_len {P : Pst} (h : InForm P) : (frB P).length ≤ 200000000010 := by
  have h1 := pastB_len h
  have h2 := U.numB_len 9 (pastB P).length (by omega)
  unfold frB
  rw [List.length_append]
  omega
/-- what Put answers -/
def PutD (w w' : World) (e : Ending) (H L : Pst) : Prop :=
  (¬ FormD H L ∧ e = .returned (.tuple #[.slice none 0 0, .int .i64 1]) ∧ Below w.heap.size w w') ∨ (FormD H L ∧ ∃ bo cc, e = .returned (.tuple #[.slice bo (digB H L).length cc, .int .i64 0]) ∧ U.BR w' bo (digB H L).length cc (digB H L) ∧ U.NewB w w' bo)
theorem ls_two {a b : Option Addr} {n m c d : Nat} {X Y : List Int} (hX : U.BS w a n c X) (hY : U.BS w b m d Y) : U.LS (w.alloc (.cells #[.slice a n c, .slice b m d] 28)) (some ⟨w.heap.size, 0, none⟩) 2 2 [X, Y] := by
  have hb := below_new w (.cells #[.slice a n c, .slice b m d] 28)
  have hh := heap_alloc_new w (.cells #[.slice a n c, .slice b m d] 28)
  obtain ⟨V, hV⟩ : ∃ V, w.alloc (.cells #[.slice a n c, .slice b m d] 28) = V := ⟨_, rfl⟩
  rw [hV] at hb hh ⊢
  refine ⟨rfl, fun h => (by cases h), fun ad h i hi => ?_⟩
  obtain rfl := Option.some.inj h
  rcases (show i = 0 ∨ i = 1 by omega) with rfl | rfl
  · refine ⟨a, n, c, ?_, hX.below hb⟩
    rw [Addr.add_lit]
    simp [World.cell?, hh]
  · refine ⟨b, m, d, ?_, hY.below hb⟩
    rw [Addr.add_lit]
    simp [World.cell?, hh]
set_option maxRecDepth 100000 in
set_option maxHeartbeats 1600000 in
theorem dput_any (d : Dg) (w : World) (hS : DgOk w d) : Calls Tryz.prog 4 #[DiV (mkD d)] w fun e w' => PutD w w' e d.h.P d.l.P := by
  have HX := hide (DiBox_new w (mkD d))
  have HB := hide (below_new w (.cells (DiC (mkD d)) 27))
  have HS := hide (hS.below HB.out)
  clear hS
  obtain ⟨wk, hwk⟩ : ∃ wk, w.alloc (.cells (DiC (mkD d)) 27) = wk := ⟨_, rfl⟩
  obtain ⟨G, hG⟩ : ∃ G, w.heap.size = G := ⟨_, rfl⟩
  rw [hwk] at HX HB HS
  rw [hG] at HX
  have l1 := run_ldDi HX.out
  go_enter Tryz.func4, Tryz.ntmps4
  go_wp2_with fail
  clear hwk hG
  refine (dcheck_any d _ HS.out).mono ?_
  rintro e w2 ⟨x, rfl, hx, b2⟩
  have HB2 := hide (HB.out.trans (b2.mono HB.out.size))
  have HX2 := hide (HX.out.below b2)
  have HS2 := hide (HS.out.below b2)
  clear b2 l1 HX HB HS
  rcases hx with ⟨rfl, hn⟩ | ⟨rfl, hy⟩
  · have HF : Hid (PutD w w2 (.returned (.tuple #[.slice none 0 0, .int .i64 1])) d.h.P d.l.P) := .inl ⟨hn, rfl, HB2.out⟩
    clear hn
    go_wp2_with fail
    go_ret2
    exact HF.out
  · have HY := hide hy
    clear hy
    have l2 := run_ldP HX2.out.heard
    go_wp2_with fail
    refine (putPast_any d.h _ HS2.out.1).mono ?_
    rintro e w3 (⟨hno, -, -⟩ | ⟨-, bo3, cc3, rfl, hR3, hN3⟩)
    · exact absurd HY.out.1 hno
    have HB3 := hide (HB2.out.trans (hN3.1.mono HB2.out.size))
    have HX3 := hide (HX2.out.below hN3.1)
    have HS3 := hide (HS2.out.below hN3.1)
    have HR3 := hide hR3.bs
    obtain ⟨n3, hn3⟩ : ∃ n3, (pastB d.h.P).length = n3 := ⟨_, rfl⟩
    rw [hn3] at HR3 ⊢
    clear hR3 hN3 l2 HX2 HB2 HS2 hn3
    have l3 := run_ldP HX3.out.live
    go_wp2_with fail
    refine (putPast_any d.l _ HS3.out.2).mono ?_
    rintro e w4 (⟨hno, -, -⟩ | ⟨-, bo4, cc4, rfl, hR4, hN4⟩)
    · exact absurd HY.out.2.1 hno
    have HB4 := hide (HB3.out.trans (hN4.1.mono HB3.out.size))
    have HR34 := hide (HR3.out.below hN4.1)
    have HR4 := hide hR4.bs
    obtain ⟨n4, hn4⟩ : ∃ n4, (pastB d.l.P).length = n4 := ⟨_, rfl⟩
    rw [hn4] at HR4 ⊢
    clear hR4 hN4 l3 HX3 HB3 HS3 hn4 HR3
    have HL := hide (ls_two HR34.out HR4.out)
    have HBL := hide (HB4.out.trans ((below_new w4 (.cells #[.slice bo3 n3 cc3, .slice bo4 n4 cc4] 28)).mono HB4.out.size))
    have HLn : Hid ((U.joinB [pastB d.h.P, pastB d.l.P]).length ≤ 140737488355000) := by
      show _ ≤ _
      rw [digB_join]
      have h1 := frB_len HY.out.1
      have h2 := frB_len HY.out.2.1
      unfold digB
      rw [List.length_append]
      omega
    go_wp2_with fail
    refine (U.join_any _ 2 2 _ _ HL.out (by decide) HLn.out).mono ?_
    rintro e w5 ⟨bo5, l5, cc5, rfl, hR5, hN5⟩
    have HF : Hid (PutD w w5 (.returned (.tuple #[.slice bo5 l5 cc5, .int .i64 0])) d.h.P d.l.P) := by
      have e5 := hR5.len
      rw [digB_join] at e5 hR5
      subst e5
      exact .inr ⟨HY.out, bo5, cc5, rfl, hR5, hN5.pre HBL.out⟩
    clear hR5 hN5 HL
    go_wp2_with fail
    go_ret2
    exact HF.out
end Go.Proofs.YtbmjiedpaffifaaGreat
namespace Go.Proofs.YtbmjiedpaffifaaGreat
open Go.RowKit
variable {w w' w2 W W' W2 w0 : World} {g b3 : Nat} {Z : List Int} {B : Option Nat}
variable {vo co : Option Addr} {vn vc cn cc : Nat} {V : List Int} {C : List Sn} {F : List (Nat × Obj)}

/-- nothing is read yet -/
theorem RP.start (R : RB w0 g Z B) (hB : ∀ k, B = some k → k < w0.heap.size) (b : Below w0.heap.size w0 W) (hF : ∀ x ∈ F, W.heap[x.1]? = some x.2 ∧ w0.heap.size ≤ x.1) :
    RP w0 (W.alloc (.cells #[.slice none 0 0, .slice none 0 0] 25)) g Z B W.heap.size none 0 0 [] none 0 0 [] F := by
  have hn := U.below_new W (.cells #[.slice none 0 0, .slice none 0 0] 25)
  have b2 := b.trans (hn.mono b.size)
  have hs := b.size
  refine ⟨R.below b2, R.lt, hB, U.Kg.of_below b2, heap_alloc_new W _, b.size, I.BR.nil _, J.BR.nil _, fun k e => (by cases e), fun k e => (by cases e), fun x hx => ?_⟩
  obtain ⟨k1, k2⟩ := hF x hx
  have h1 := some_lt k1
  exact ⟨(hn.block x.1 h1).trans k1, k2, by omega⟩
/-- the places grew, and are not stored yet -/
theorem RP.heldV (h : RP w0 W g Z B b3 vo vn vc V co cn cc C F) {bo : Option Addr} (A : U.Ap W W2 vo bo) : W2.heap[b3]? = some (.cells #[.slice vo vn vc, .slice co cn cc] 25 (0, 0)) ∧ ∀ x ∈ F, W2.heap[x.1]? = some x.2 :=
  ⟨(A.grown.block b3 (some_lt h.box) (fun e => (h.vnew b3 e.symm).2.1 rfl)).trans h.box, fun x hx => (A.grown.block x.1 (some_lt (h.keep x hx).1) (fun e => (h.vnew x.1 e.symm).2.2 x hx rfl)).trans (h.keep x hx).1⟩
theorem RP.heldC (h : RP w0 W g Z B b3 vo vn vc V co cn cc C F) {bo : Option Addr} (A : U.Ap W W2 co bo) : W2.heap[b3]? = some (.cells #[.slice vo vn vc, .slice co cn cc] 25 (0, 0)) ∧ ∀ x ∈ F, W2.heap[x.1]? = some x.2 :=
  ⟨(A.grown.block b3 (some_lt h.box) (fun e => (h.cnew b3 e.symm).2.1 rfl)).trans h.box, fun x hx => (A.grown.block x.1 (some_lt (h.keep x hx).1) (fun e => (h.cnew x.1 e.symm).2.2.2 x hx rfl)).trans (h.keep x hx).1⟩
theorem pbox_c0 {W : World} {b : Nat} {x y : Value} (h : W.heap[b]? = some (.cells #[x, y] 25 (0, 0))) : W.cell? ⟨b, 0, none⟩ = some x ∧ W.cell? ⟨b, 1, none⟩ = some y ∧ ∀ j, W.frozen? ⟨b, j, none⟩ = false :=
  ⟨by simp [World.cell?, h], by simp [World.cell?, h], fun j => by simp [World.frozen?, h]⟩
/-- one place read -/
theorem rdVec_bad {n : Nat} (h : U.pNum 1000000000 Z = none) : rdVec (n + 1) Z = none := by rw [rdVec, h]
theorem rdVec_next {n v : Nat} {Z1 V : List Int} (h : U.pNum 1000000000 Z = some (v, Z1)) : (rdVec (n + 1) Z).map (fun x => (V ++ x.1, x.2)) = (rdVec n Z1).map (fun x => ((V ++ [(v : Int)]) ++ x.1, x.2)) := by
  rw [rdVec, h]
  simp only
  cases rdVec n Z1 with
  | none => rfl
  | some y => obtain ⟨a, b⟩ := y; simp
/-- one span read -/
theorem rdCloud_bad {n : Nat} {T : Nat → Int} {r0 : Int} (h : plF T r0 Z = none) : rdCloud (n + 1) T r0 Z = none := by
  rw [rdCloud]
  unfold plF at h
  cases h1 : U.pNum (15 - r0) Z with
  | none => rfl
  | some y =>
    obtain ⟨a, Z1⟩ := y
    rw [h1] at h
    simp only at h ⊢
    cases h2 : U.pNum (1000000000 - (T (r0 + a).toNat + 2)) Z1 with
    | none => rfl
    | some y => rw [h2] at h; cases h
theorem plF_some {T : Nat → Int} {r0 a b : Int} {Z2 : List Int} (h : plF T r0 Z = some (a, b, Z2)) : r0 ≤ a ∧ a ≤ 15 ∧ T a.toNat + 2 ≤ b ∧ b ≤ 1000000000 := by
  unfold plF at h
  cases h1 : U.pNum (15 - r0) Z with
  | none => rw [h1] at h; cases h
  | some y =>
    obtain ⟨x, Z1⟩ := y
    rw [h1] at h
    simp only at h
    have l1 := pNum_le h1
    cases h2 : U.pNum (1000000000 - (T (r0 + x).toNat + 2)) Z1 with
    | none => rw [h2] at h; cases h
    | some y =>
      obtain ⟨z, Z3⟩ := y
      rw [h2] at h
      have l2 := pNum_le h2
      simp only [Option.some.injEq, Prod.mk.injEq] at h
      obtain ⟨rfl, rfl, _⟩ := h
      exact ⟨by omega, by omega, by omega, by omega⟩
theorem rdCloud_at {n : Nat} {T : Nat → Int} {r0 a b : Int} {Z2 : List Int} (h : plF T r0 Z = some (a, b, Z2)) : rdCloud (n + 1) T r0 Z = match U.pNum (1000000000 - b) Z2 with
    | none => none
    | some (c, Z3) => match rdCloud n (upd T a.toNat (b + c)) a Z3 with
      | none => none
      | some (L, R) => some (⟨a, b, b + c⟩ :: L, R) := by
  rw [rdCloud]
  unfold plF at h
  cases h1 : U.pNum (15 - r0) Z with
  | none => rw [h1] at h; cases h
  | some y =>
    obtain ⟨x, Z1⟩ := y
    rw [h1] at h
    simp only at h ⊢
    cases h2 : U.pNum (1000000000 - (T (r0 + x).toNat + 2)) Z1 with
    | none => rw [h2] at h; cases h
    | some y =>
      obtain ⟨z, Z3⟩ := y
      rw [h2] at h
      simp only [Option.some.injEq, Prod.mk.injEq] at h
      obtain ⟨rfl, rfl, rfl⟩ := h
      rfl
theorem rdCloud_bad2 {n : Nat} {T : Nat → Int} {r0 a b : Int} {Z2 : List Int} (h : plF T r0 Z = some (a, b, Z2)) (h2 : U.pNum (1000000000 - b) Z2 = none) : rdCloud (n + 1) T r0 Z = none := by rw [rdCloud_at h, h2]
theorem rdCloud_next {n c : Nat} {T : Nat → Int} {r0 a b : Int} {Z2 Z3 : List Int} {C : List Sn} (h : plF T r0 Z = some (a, b, Z2)) (h2 : U.pNum (1000000000 - b) Z2 = some (c, Z3)) :
    (rdCloud (n + 1) T r0 Z).map (fun x => (C ++ x.1, x.2)) = (rdCloud n (upd T a.toNat (b + c)) a Z3).map (fun x => ((C ++ [⟨a, b, b + c⟩]) ++ x.1, x.2)) := by
  rw [rdCloud_at h, h2]
  simp only
  cases rdCloud n (upd T a.toNat (b + c)) a Z3 with
  | none => rfl
  | some y => obtain ⟨L, R⟩ := y; simp
/-- the room of a cloud -/
theorem room_next {T : Nat → Int} {r0 a b : Int} {cn c : Nat} (h : (cn : Int) ≤ r0 * 1000000001 + T r0.toNat) (hT : T r0.toNat ≤ 1000000000) (h0 : 0 ≤ r0) (h1 : r0 ≤ a) (h2 : T a.toNat + 2 ≤ b) (h3 : 0 ≤ b) : ((cn + 1 : Nat) : Int) ≤ a * 1000000001 + upd T a.toNat (b + c) a.toNat := by
  have e : upd T a.toNat (b + c) a.toNat = b + c := by unfold upd; rw [if_pos rfl]
  rw [e]
  by_cases x : a = r0
  · subst x; omega
  · omega
end Go.Proofs.YtbmjiedpaffifaaGreat
