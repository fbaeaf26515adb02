/- UJq ZPu -/
import Derived.Test.YtbmjiedpaffifaaDg38
import Derived.Test.YtbmjiedpaffifaaDg34
namespace Go.Proofs.Ytbmjiedpaffifaa.U
open Go.RowKit
variable {w w' w2 : World} {lo : Option Addr} {ln lc : Nat} {L : List (List Int)}

/-- a row of rows of bytes that is read -/
structure LS (w : World) (lo : Option Addr) (ln lc : Nat) (L : List (List Int)) : Prop where
  len : L.length = ln
  nil : lo = none → ln = 0 ∧ lc = 0
  cell : ∀ ad, lo = some ad → ∀ i, i < ln → ∃ bo n c, w.cell? (ad.add i) = some (.slice bo n c) ∧ BS w bo n c (L.getD i [])
theorem LS.below (h : LS w lo ln lc L) (hb : Below w.heap.size w w') : LS w' lo ln lc L :=
  ⟨h.len, h.nil, fun ad ha i hi => by
    obtain ⟨bo, n, c, hc, B⟩ := h.cell ad ha i hi
    exact ⟨bo, n, c, (hb.cell (World.block_lt_of_cell? w _ hc)).trans hc, B.below hb⟩⟩
theorem LS.at (h : LS w lo ln lc L) (i : Nat) (hi : i < ln) : ∃ ad bo n c, lo = some ad ∧ w.cell? (ad.add i) = some (.slice bo n c) ∧ BS w bo n c (L.getD i []) := by
  cases lo with
  | none => have := (h.nil rfl).1; omega
  | some ad =>
    obtain ⟨bo, n, c, hc, B⟩ := h.cell ad rfl i hi
    exact ⟨ad, bo, n, c, rfl, hc, B⟩
theorem GB.ls {n0 : Nat} (h : GB n0 w lo ln lc L) : LS w lo ln lc L := by
  obtain ⟨V, r, hr⟩ := h.row
  refine ⟨h.len, fun e => ?_, fun ad ha i hi => ?_⟩
  · subst e
    rcases r.2 with ⟨h0, h00⟩ | ⟨q, cap2, cur, hv, _⟩
    · simp only [Value.slice.injEq, true_and] at h0
      exact h0
    · cases hv
  · obtain ⟨b, hb, hc, -⟩ := r.at i hi
    obtain ⟨bo, n, c, hv, B, -⟩ := hr i hi
    rw [ha] at hb
    obtain rfl := Option.some.inj hb
    exact ⟨bo, n, c, by rw [Addr.add_lit, Nat.zero_add, hc, hv], B⟩
/-- frames one behind the other -/
def joinB (L : List (List Int)) : List Int := L.flatMap fun Y => numB Y.length ++ Y
theorem joinB_succ (L : List (List Int)) (k : Nat) (h : k < L.length) : joinB (L.take (k + 1)) = joinB (L.take k) ++ (numB (L.getD k []).length ++ L.getD k []) := by
  unfold joinB
  rw [List.take_add_one, List.flatMap_append, List.getD_eq_getElem?_getD, List.getElem?_eq_getElem h]
  simp
theorem joinB_le (L : List (List Int)) (k : Nat) : (joinB (L.take k)).length ≤ (joinB L).length := by
  have : joinB L = joinB (L.take k) ++ joinB (L.drop k) := by
    unfold joinB
    rw [← List.flatMap_append, List.take_append_drop]
  rw [this, List.length_append]
  omega
set_option maxRecDepth 100000 in
theorem frameJ_any (ao : Option Addr) (n c : Nat) (Z : List Int) (so : Option Addr) (m d : Nat) (Y : List Int) (w : World) (S : BR w ao n c Z) (B : BS w so m d Y) (hne : m ≠ 0 → ∀ k, blk so = some k → blk ao ≠ some k) (hn : n + m ≤ 140737488355000) :
    Calls Try.prog 77 #[.slice ao n c, .slice so m d] w fun r w' => ∃ bo l cc, r = .returned (.slice bo l cc) ∧ BR w' bo l cc (Z ++ (numB m ++ Y)) ∧ Ap w w' ao bo := by
  have HS := hide S
  have HN := hide hn
  have HY := hide B
  have HE := hide hne
  clear S hn B hne
  go_enter Try.func77, Try.ntmps77
  go_wp2_with fail
  refine (appendNum_any ao n c Z m w HS.out (by have := HN.out; omega) (by have := HN.out; omega)).mono ?_
  rintro r w2 ⟨bo, cc, rfl, B2, A2⟩
  have HL : Hid (n + (numB m).length + m ≤ 140737488355328) := by show _ ≤ _; have := HN.out; have := numB_nine (n := m) (by omega); omega
  have HB := hide B2
  have HA := hide A2
  have HY2 := hide (HY.out.ap0 A2 HE.out)
  clear B2 A2
  go_wp2_with (at_builtin; refine HB.out.appB HY2.out HL.out rfl (.tmp 8) (.tmp 9) rfl rfl rfl ?_; intro b5 c5 w5 S5 A5; have HS5 := hide S5; have HA5 := hide (HA.out.trans A5); clear S5 A5)
  go_ret
  refine ⟨b5, _, c5, rfl, ?_, HA5.out⟩
  rw [← List.append_assoc]
  exact HS5.out
/-- what both Joins answer -/
def JoA (w w' : World) (L : List (List Int)) (r : Ending) : Prop := ∃ bo l cc, r = .returned (.slice bo l cc) ∧ BR w' bo l cc (joinB L) ∧ NewB w w' bo
theorem ap_new {ao bo : Option Addr} {w0 : World} (N : NewB w0 w ao) (A : Ap w w' ao bo) : NewB w0 w' bo := by
  refine ⟨N.1.grown A.grown N.1.size N.2, fun k e => ?_⟩
  rcases A.lies with x | ⟨j, x, hj⟩
  · exact N.2 k (x ▸ e)
  · rw [x] at e
    have := Option.some.inj e
    have := N.1.size
    omega
set_option maxRecDepth 100000 in
theorem join_any (lo : Option Addr) (ln lc : Nat) (L : List (List Int)) (w : World) (S : LS w lo ln lc L) (hln : ln ≤ 140737488355328) (hb : (joinB L).length ≤ 140737488355000) :
    Calls Try.prog 49 #[.slice lo ln lc] w fun r w' => JoA w w' L r := by
  have HS := hide S
  have HN := hide hln
  have HB := hide hb
  clear S hln hb
  go_enter Try.func49, Try.ntmps49
  go_wp2_with fail
  go_loopw [3, 8] (fun o i wr => ∃ (k : Nat) (bo : Option Addr) (l cc : Nat), k ≤ ln ∧ o = .slice bo l cc ∧ i = .int .i64 k ∧ Hid (BR wr bo l cc (joinB (L.take k)) ∧ NewB w wr bo)) (fun _ i _ => ln - (intOf i).toNat)
  case atStart => exact ⟨0, none, 0, 0, Nat.zero_le _, rfl, rfl, BR.nil _, Below.refl _ _, fun k e => by cases e⟩
  case round =>
    obtain ⟨k, bo, l, cc, hk, rfl, rfl, HI⟩ := hrel
    by_cases hlt : k < ln
    · have HLT := hide hlt
      have HK1 : Hid (wrap64 ((k : Int) + 1) = ((k + 1 : Nat) : Int)) := by show _ = _; have := HN.out; rw [w64 (by omega) (by omega)]; rfl
      obtain ⟨ad, so, m, d, rfl, hc, B⟩ := (HS.out.below HI.out.2.1).at k hlt
      have hl := HI.out.1.len
      have hj := joinB_succ L k (by rw [HS.out.len]; exact hlt)
      have hle := joinB_le L (k + 1)
      rw [hj, List.length_append, List.length_append, hl, B.len] at hle
      have HC := hide (frameJ_any bo l cc _ so m d _ wr HI.out.1 B (fun h0 j e x => by
        have h1 := (B.lt h0 j e)
        have h2 := HI.out.2.2 j x
        obtain ⟨_, so', m', d', h3, hc', B'⟩ := HS.out.at k hlt
        obtain rfl := Option.some.inj h3
        have h4 := (HI.out.2.1.cell (World.block_lt_of_cell? w _ hc')).trans hc'
        rw [hc] at h4
        simp only [Option.some.injEq, Value.slice.injEq] at h4
        obtain ⟨rfl, rfl, rfl⟩ := h4
        have h5 := B'.lt h0 j e
        omega) (by have := HB.out; omega))
      rw [← B.len, B.len, show numB m ++ L.getD k [] = numB (L.getD k []).length ++ L.getD k [] by rw [B.len], ← hj] at HC
      clear B hl hj hle
      go_wp2_with fail
      refine HC.out.mono ?_
      rintro r w3 ⟨b3, l3, c3, rfl, B3, A3⟩
      have HE : Hid (BR w3 b3 l3 c3 (joinB (L.take (k + 1))) ∧ NewB w w3 b3) := ⟨B3, ap_new HI.out.2 A3⟩
      clear B3 A3 HC HI
      go_wp2_with fail
      go_roundw
      case rel => exact ⟨k + 1, b3, l3, c3, HLT.out, rfl, by rw [HK1.out], HE⟩
      case measure => rw [HK1.out]; have := HLT.out; simp [intOf]; omega
    · obtain ⟨rfl, -⟩ : k = ln ∧ True := ⟨by omega, trivial⟩
      have HE : Hid (JoA w wr L (.returned (.slice bo l cc))) := ⟨bo, l, cc, rfl, by have h := HI.out.1; rw [List.take_of_length_le (by rw [HS.out.len]; omega)] at h; exact h, HI.out.2⟩
      go_wp2_with fail
      go_ret
      exact HE.out
end Go.Proofs.Ytbmjiedpaffifaa.U
namespace Go.Proofs.Ytbmjiedpaffifaa
open Go.RowKit
attribute [local go_sem ↓] ldP_eq stP_eq ldDi_eq stDi_eq
attribute [local go_sem] cells_PV PC_size cells_DiV DiC_size
variable {w w' w2 W W' : World} {g : Nat}

theorem szPst : (Try.prog.info? 25).map (·.size) = some 2 := by kernel_rfl
theorem DiBox.fz {m : DigV} (h : DiBox w g m) (j : Nat) : w.frozen? ⟨g, j, none⟩ = false := by unfold DiBox at h; simp [World.frozen?, h]
theorem run_stPH {d : Dg} (p : Pv) (A : DiBox w g (mkD d)) : ∃ w', (stP (.pointer (some ⟨g, 0, none⟩)) (PV p)).run Try.prog w = .ok () w' ∧ DiBox w' g (mkD ⟨p, d.l⟩) ∧ U.Kg w w' g := by
  have ht : w.there g 0 (PC p).size := fun j hj => by
    have hj : j < 2 := hj
    refine ⟨?_, A.fz _⟩
    rcases (show j = 0 ∨ j = 1 by omega) with rfl | rfl
    · rw [Nat.add_zero, A.c0]; rfl
    · rw [show 0 + 1 = 1 from rfl, A.c1]; rfl
  refine ⟨_, run_storeAt_mid (P := Try.prog) w g 0 25 (PC p) ht szPst (by simp [PC, Value.oneCell']), ?_, ?_⟩
  · exact U.set_heap _ g _ _ _ 1 _ (U.set_heap w g _ _ _ 0 _ A)
  · exact ((U.Kg.refl w g).set 0 _).set 1 _
theorem run_stPL {d : Dg} (p : Pv) (A : DiBox w g (mkD d)) : ∃ w', (stP (.pointer (some ⟨g, 2, none⟩)) (PV p)).run Try.prog w = .ok () w' ∧ DiBox w' g (mkD ⟨d.h, p⟩) ∧ U.Kg w w' g := by
  have ht : w.there g 2 (PC p).size := fun j hj => by
    have hj : j < 2 := hj
    refine ⟨?_, A.fz _⟩
    rcases (show j = 0 ∨ j = 1 by omega) with rfl | rfl
    · rw [Nat.add_zero, A.c2]; rfl
    · rw [show 2 + 1 = 3 from rfl, A.c3]; rfl
  refine ⟨_, run_storeAt_mid (P := Try.prog) w g 2 25 (PC p) ht szPst (by simp [PC, Value.oneCell']), ?_, ?_⟩
  · exact U.set_heap _ g _ _ _ 3 _ (U.set_heap w g _ _ _ 2 _ A)
  · exact ((U.Kg.refl w g).set 2 _).set 3 _
/-- a past's frame, a digest's bytes -/
def frB (P : Pst) : List Int := U.numB (pastB P).length ++ pastB P
def digB (H L : Pst) : List Int := frB H ++ frB L
theorem digB_join (H L : Pst) : U.joinB [pastB H, pastB L] = digB H L := by simp [U.joinB, digB, frB]
theorem frB_len {P : Pst} (h : InForm P) : (frB P).length ≤ 200000000010 := by
  have h1 := pastB_len h
  have h2 := U.numB_len 9 (pastB P).length (by omega)
  unfold frB
  rw [List.length_append]
  omega
/-- what Put answers -/
def PutD (w w' : World) (e : Ending) (H L : Pst) : Prop :=
  (¬ FormD H L ∧ e = .returned (.tuple #[.slice none 0 0, .int .i64 1]) ∧ Below w.heap.size w w') ∨ (FormD H L ∧ ∃ bo cc, e = .returned (.tuple #[.slice bo (digB H L).length cc, .int .i64 0]) ∧ U.BR w' bo (digB H L).length cc (digB H L) ∧ U.NewB w w' bo)
theorem ls_two {a b : Option Addr} {n m c d : Nat} {X Y : List Int} (hX : U.BS w a n c X) (hY : U.BS w b m d Y) : U.LS (w.alloc (.cells #[.slice a n c, .slice b m d] 40)) (some ⟨w.heap.size, 0, none⟩) 2 2 [X, Y] := by
  have hb := below_new w (.cells #[.slice a n c, .slice b m d] 40)
  have hh := heap_alloc_new w (.cells #[.slice a n c, .slice b m d] 40)
  obtain ⟨V, hV⟩ : ∃ V, w.alloc (.cells #[.slice a n c, .slice b m d] 40) = V := ⟨_, rfl⟩
  rw [hV] at hb hh ⊢
  refine ⟨rfl, fun h => (by cases h), fun ad h i hi => ?_⟩
  obtain rfl := Option.some.inj h
  rcases (show i = 0 ∨ i = 1 by omega) with rfl | rfl
  · refine ⟨a, n, c, ?_, hX.below hb⟩
    rw [Addr.add_lit]
    simp [World.cell?, hh]
  · refine ⟨b, m, d, ?_, hY.below hb⟩
    rw [Addr.add_lit]
    simp [World.cell?, hh]
set_option maxRecDepth 100000 in
set_option maxHeartbeats 1600000 in
theorem dput_any (d : Dg) (w : World) (hS : DgOk w d) : Calls Try.prog 22 #[DiV (mkD d)] w fun e w' => PutD w w' e d.h.P d.l.P := by
  have HX := hide (DiBox_new w (mkD d))
  have HB := hide (below_new w (.cells (DiC (mkD d)) 39))
  have HS := hide (hS.below HB.out)
  clear hS
  obtain ⟨wk, hwk⟩ : ∃ wk, w.alloc (.cells (DiC (mkD d)) 39) = wk := ⟨_, rfl⟩
  obtain ⟨G, hG⟩ : ∃ G, w.heap.size = G := ⟨_, rfl⟩
  rw [hwk] at HX HB HS
  rw [hG] at HX
  have l1 := run_ldDi HX.out
  go_enter Try.func22, Try.ntmps22
  go_wp2_with fail
  clear hwk hG
  refine (dcheck_any d _ HS.out).mono ?_
  rintro e w2 ⟨x, rfl, hx, b2⟩
  have HB2 := hide (HB.out.trans (b2.mono HB.out.size))
  have HX2 := hide (HX.out.below b2)
  have HS2 := hide (HS.out.below b2)
  clear b2 l1 HX HB HS
  rcases hx with ⟨rfl, hn⟩ | ⟨rfl, hy⟩
  · have HF : Hid (PutD w w2 (.returned (.tuple #[.slice none 0 0, .int .i64 1])) d.h.P d.l.P) := .inl ⟨hn, rfl, HB2.out⟩
    clear hn
    go_wp2_with fail
    go_ret2
    exact HF.out
  · have HY := hide hy
    clear hy
    have l2 := run_ldP HX2.out.heard
    go_wp2_with fail
    refine (putPast_any d.h _ HS2.out.1).mono ?_
    rintro e w3 (⟨hno, -, -⟩ | ⟨-, bo3, cc3, rfl, hR3, hN3⟩)
    · exact absurd HY.out.1 hno
    have HB3 := hide (HB2.out.trans (hN3.1.mono HB2.out.size))
    have HX3 := hide (HX2.out.below hN3.1)
    have HS3 := hide (HS2.out.below hN3.1)
    have HR3 := hide hR3.bs
    obtain ⟨n3, hn3⟩ : ∃ n3, (pastB d.h.P).length = n3 := ⟨_, rfl⟩
    rw [hn3] at HR3 ⊢
    clear hR3 hN3 l2 HX2 HB2 HS2 hn3
    have l3 := run_ldP HX3.out.live
    go_wp2_with fail
    refine (putPast_any d.l _ HS3.out.2).mono ?_
    rintro e w4 (⟨hno, -, -⟩ | ⟨-, bo4, cc4, rfl, hR4, hN4⟩)
    · exact absurd HY.out.2.1 hno
    have HB4 := hide (HB3.out.trans (hN4.1.mono HB3.out.size))
    have HR34 := hide (HR3.out.below hN4.1)
    have HR4 := hide hR4.bs
    obtain ⟨n4, hn4⟩ : ∃ n4, (pastB d.l.P).length = n4 := ⟨_, rfl⟩
    rw [hn4] at HR4 ⊢
    clear hR4 hN4 l3 HX3 HB3 HS3 hn4 HR3
    have HL := hide (ls_two HR34.out HR4.out)
    have HBL := hide (HB4.out.trans ((below_new w4 (.cells #[.slice bo3 n3 cc3, .slice bo4 n4 cc4] 40)).mono HB4.out.size))
    have HLn : Hid ((U.joinB [pastB d.h.P, pastB d.l.P]).length ≤ 140737488355000) := by
      show _ ≤ _
      rw [digB_join]
      have h1 := frB_len HY.out.1
      have h2 := frB_len HY.out.2.1
      unfold digB
      rw [List.length_append]
      omega
    go_wp2_with fail
    refine (U.join_any _ 2 2 _ _ HL.out (by decide) HLn.out).mono ?_
    rintro e w5 ⟨bo5, l5, cc5, rfl, hR5, hN5⟩
    have HF : Hid (PutD w w5 (.returned (.tuple #[.slice bo5 l5 cc5, .int .i64 0])) d.h.P d.l.P) := by
      have e5 := hR5.len
      rw [digB_join] at e5 hR5
      subst e5
      exact .inr ⟨HY.out, bo5, cc5, rfl, hR5, hN5.pre HBL.out⟩
    clear hR5 hN5 HL
    go_wp2_with fail
    go_ret2
    exact HF.out
end Go.Proofs.Ytbmjiedpaffifaa
