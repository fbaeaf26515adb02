/- TVf SXv -/
import Derived.Test.YtaphmhbmhcahaaaGreatTk
import Derived.Test.YtaphmhbmhcahaaaGreatSe31
import Derived.Test.YtaphmhbmhcahaaaGreatSe43
import Derived.Test.YtaphmhbmhcahaaaGreatSe42
set_option maxRecDepth 100000
set_option maxHeartbeats 6400000
namespace Go.Proofs.YtaphmhbmhcahaaaGreat
section
open Go.ChangeShapes Go.WideShapes Go.ChangeAt Go.RowKit Go.Joins

def RSmT (L : List Rc) : Prop := L.length <= 209715 /\ ∀ r ∈ L, r.p.P.cloud.length <= 1048576
structure FcU (w : World) (f : Fc) : Prop where
 ok : FcOk w f
 row : FcR f
 sm : RSmT f.rs
 an : f.an <= 1048576
theorem cellsRe : Tryz.prog.cellsOf 80 = 3 := by kernel_rfl
theorem cellsSk : Tryz.prog.cellsOf 9 = 1 := by kernel_rfl
theorem cellsEs : Tryz.prog.cellsOf 22 = 1 := by kernel_rfl
theorem cellsRs : Tryz.prog.cellsOf 27 = 1 := by kernel_rfl
theorem cellsFa : Tryz.prog.cellsOf 59 = 4 := by kernel_rfl
theorem bulk_at {H : Type} : ∀ (l : List (DataW H)) (d : DataW H), d ∈ l -> Rows.uptoBulk d <= Rows.uptoBulkAll l
 | e :: l, d, h => by
  simp only [Rows.uptoBulkAll]
  rcases List.mem_cons.1 h with rfl | h
  ·omega
  ·have := bulk_at l d h; omega
theorem bulk_five {H : Type} : ∀ (l : List (DataW H)), (∀ d ∈ l, 5 <= Rows.uptoBulk d) -> 5 * l.length <= Rows.uptoBulkAll l
 | [], _ => by simp
 | d :: l, h => by
  have h1 := bulk_five l (fun e he => h e (List.mem_cons_of_mem _ he))
  have h2 := h d List.mem_cons_self
  simp only [Rows.uptoBulkAll, List.length_cons]; omega
theorem viewEu {H : Type} {enc : TypeId × Value -> H} {W : World} {fuel : Nat} {v : Value} {x : DataW H × List MemPlace}
  (h : DataW.trod enc Tryz.prog W 0 (fun _ => true) true fuel 22 [v] = some x) (hw : Rows.uptoBulk x.1 <= 1048576) : ∃ (ao : Option Addr) (n cap : Nat) (L : List K.En), v = .slice ao n cap /\ K.ESrc W ao n cap L /\ n <= 1048576 := by
 rcases DataW.trod_slice Tryz.underlying22 h with h0 | ⟨a, len, cap, elems, rest, n, _, hcs, hx, hb, hl, hm, hlen, hel, hsp, hns⟩
 ·have e : v = .slice none 0 0 := by simpa using h0.1
  exact ⟨none, 0, 0, [], e, ⟨rfl, fun _ => ⟨rfl, rfl⟩, fun ad h => (by cases h), fun e he => (by cases he), Nat.zero_le _⟩, Nat.zero_le _⟩
 ·subst hx
  have e : v = .slice (some a) len cap := by simpa using hcs
  simp only [Rows.uptoBulk] at hw
  have h1 := bulk_len (elems.map (·.1))
  simp only [List.length_map] at h1
  have key : ∀ i, i < len -> ∃ e : K.En, K.EnAt W (a.add (i * 4)) e /\ e.sku.size <= maxLen := by
   intro i hi
   have he := hel i hi
   obtain ⟨y, hy⟩ : ∃ y, elems[i]? = some y := ⟨_, List.getElem?_eq_getElem (by omega)⟩
   rw [hy, K.cells28, Option.bind_eq_some_iff] at he
   obtain ⟨cs', hcs, hy'⟩ := he
   obtain ⟨_, -, hce⟩ := World.cells?_some hcs
   obtain ⟨e, rfl, hs⟩ := K.open_entry hy'
   have g0 := hce 0 (by omega)
   rw [add_zero] at g0
   exact ⟨e, ⟨g0, hce 1 (by omega), hce 2 (by omega), hce 3 (by omega)⟩, hs⟩
  refine ⟨some a, len, cap, (List.range len).map fun i => if h : i < len then Classical.choose (key i h) else K.en0, e, ⟨by simp, fun h => (by cases h), fun ad h t ht => ?_, fun e he => ?_, by omega⟩, by omega⟩
  ·obtain rfl := Option.some.inj h
   have : ((List.range len).map fun i => if h : i < len then Classical.choose (key i h) else K.en0).getD t K.en0 = Classical.choose (key t ht) := by simp [List.getD, ht]
   rw [this]
   exact (Classical.choose_spec (key t ht)).1
  ·simp only [List.mem_map, List.mem_range] at he
   obtain ⟨i, hi, rfl⟩ := he
   rw [dif_pos hi]
   exact (Classical.choose_spec (key i hi)).2
theorem past_bulk {H : Type} {enc : TypeId × Value -> H} {W : World} {fuel : Nat} {cs : List Value} {x : DataW H × List MemPlace}
  (h : DataW.trod enc Tryz.prog W 0 (fun _ => true) true fuel 26 cs = some x) : 3 <= Rows.uptoBulk x.1 := by
 obtain ⟨xs, m, _, hx, hcl, hxl, hf⟩ := DataW.trod_struct Tryz.underlying26 h
 obtain ⟨y0, y1, rfl⟩ := list2 hxl
 subst hx
 have h0 := bulk_pos y0.1
 have h1 := bulk_pos y1.1
 simp only [Rows.uptoBulk, List.map_cons, List.map_nil, Rows.uptoBulkAll]
 omega
theorem open_recordU {H : Type} {enc : TypeId × Value -> H} {W : World} {fuel : Nat} {cs : List Value} {x : DataW H × List MemPlace}
  (h : DataW.trod enc Tryz.prog W 0 (fun _ => true) true fuel 80 cs = some x) : 5 <= Rows.uptoBulk x.1 /\ (Rows.uptoBulk x.1 <= 1048576 -> ∃ r : Rc, cs = (ReC (mkR r)).toList /\ RcOk W r /\ r.p.P.cloud.length <= 1048576) := by
 obtain ⟨xs, m, _, hx, hcl, hxl, hf⟩ := DataW.trod_struct Tryz.underlying80 h
 obtain ⟨v0, v1, v2, rfl⟩ := list3 (hcl.trans cellsRe)
 obtain ⟨y0, y1, rfl⟩ := list2 hxl
 have t0 := hf 0 _ rfl
 have t1 := hf 1 _ rfl
 simp [cellsP, cellsSk] at t0 t1
 subst hx
 simp only [Rows.uptoBulk, List.map_cons, List.map_nil, Rows.uptoBulkAll]
 have b0 := bulk_pos y0.1
 have b1 := past_bulk t1
 refine ⟨by omega, fun hw => ?_⟩
 obtain ⟨s, e0, -, hs⟩ := DataW.trod_string Tryz.underlying9 t0
 obtain ⟨p, ep, Sp, hl⟩ := viewP t1 (by omega)
 simp only [List.cons.injEq, and_true] at e0 ep
 obtain ⟨rfl, rfl⟩ := ep
 subst e0
 exact ⟨⟨s, p⟩, rfl, ⟨Sp, hs⟩, hl⟩
theorem viewRT {H : Type} {enc : TypeId × Value -> H} {W : World} {fuel : Nat} {v : Value} {x : DataW H × List MemPlace}
  (h : DataW.trod enc Tryz.prog W 0 (fun _ => true) true fuel 27 [v] = some x) (hw : Rows.uptoBulk x.1 <= 1048576) : ∃ (ao : Option Addr) (n cap : Nat) (L : List Rc), v = .slice ao n cap /\ RcT W ao n cap L /\ RSmT L := by
 rcases DataW.trod_slice Tryz.underlying27 h with h0 | ⟨a, len, cap, elems, rest, n, _, hcs, hx, hb, hl, hm, hlen, hel, hsp, hns⟩
 ·have e : v = .slice none 0 0 := by simpa using h0.1
  exact ⟨none, 0, 0, [], e, ⟨RcS.empty _, Nat.le_refl _, fun _ => rfl⟩, Nat.zero_le _, fun r hr => by cases hr⟩
 ·subst hx
  have e : v = .slice (some a) len cap := by simpa using hcs
  simp only [Rows.uptoBulk] at hw
  have op : ∀ i (hi : i < elems.length), i < len /\ ∃ cs', (5 <= Rows.uptoBulk elems[i].1 /\ (Rows.uptoBulk elems[i].1 <= 1048576 -> ∃ r : Rc, cs' = (ReC (mkR r)).toList /\ RcOk W r /\ r.p.P.cloud.length <= 1048576)) /\ (∀ j, j < 3 -> W.cell? ((a.add (i * 3)).add j) = cs'[j]?) := by
   intro i hi
   have hi' : i < len := by omega
   have he := hel i hi'
   rw [List.getElem?_eq_getElem hi, cellsRe, Option.bind_eq_some_iff] at he
   obtain ⟨cs', hcs, hy'⟩ := he
   obtain ⟨_, -, hce⟩ := World.cells?_some hcs
   exact ⟨hi', cs', open_recordU hy', fun j hj => hce j hj⟩
  have h5 := bulk_five (elems.map (·.1)) (fun d hd => by
   obtain ⟨y, hy, rfl⟩ := List.mem_map.1 hd
   obtain ⟨i, hi, rfl⟩ := List.getElem_of_mem hy
   obtain ⟨-, _, h, -⟩ := op i hi
   exact h.1)
  simp only [List.length_map] at h5
  have key : ∀ i, i < len -> ∃ r : Rc, ReAt W (a.add (i * 3)) (mkR r) /\ RcOk W r /\ r.p.P.cloud.length <= 1048576 := by
   intro i hi
   have hi' : i < elems.length := by omega
   obtain ⟨-, cs', h, hce⟩ := op i hi'
   obtain ⟨r, rfl, hr, hl2⟩ := h.2 (by have := bulk_at (elems.map (·.1)) elems[i].1 (List.mem_map_of_mem (f := (·.1)) (List.getElem_mem hi')); omega)
   have g0 := hce 0 (by omega)
   rw [add_zero] at g0
   exact ⟨r, ⟨g0, hce 1 (by omega), hce 2 (by omega)⟩, hr, hl2⟩
  refine ⟨some a, len, cap, (List.range len).map fun i => if h : i < len then Classical.choose (key i h) else rc0, e, ⟨⟨by simp, (fun h => by cases h), fun ad h t ht => ?_, fun r hr => ?_, by omega⟩, hl, fun h => by cases h⟩, by simp; omega, fun r hr => ?_⟩
  ·obtain rfl := Option.some.inj h
   have : ((List.range len).map fun i => if h : i < len then Classical.choose (key i h) else rc0).getD t rc0 = Classical.choose (key t ht) := by simp [List.getD, ht]
   rw [this]
   exact (Classical.choose_spec (key t ht)).1
  ·simp only [List.mem_map, List.mem_range] at hr
   obtain ⟨i, hi, rfl⟩ := hr
   rw [dif_pos hi]
   exact (Classical.choose_spec (key i hi)).2.1
  ·simp only [List.mem_map, List.mem_range] at hr
   obtain ⟨i, hi, rfl⟩ := hr
   rw [dif_pos hi]
   exact (Classical.choose_spec (key i hi)).2.2
theorem open_factsU {H : Type} {enc : TypeId × Value -> H} {W : World} {fuel : Nat} {cs : List Value} {x : DataW H × List MemPlace}
  (h : DataW.trod enc Tryz.prog W 0 (fun _ => true) true fuel 59 cs = some x) (hw : Rows.uptoBulk x.1 <= 1048576) : ∃ f : Fc, cs = (FaC (mkF f)).toList /\ FcU W f := by
 obtain ⟨xs, m, _, hx, hcl, hxl, hf⟩ := DataW.trod_struct Tryz.underlying59 h
 obtain ⟨v0, v1, v2, v3, rfl⟩ := K.list4 (hcl.trans cellsFa)
 obtain ⟨y0, y1, y2, rfl⟩ := list3 hxl
 have t0 := hf 0 _ rfl
 have t1 := hf 1 _ rfl
 have t2 := hf 2 _ rfl
 simp [cellsP, cellsEs, cellsRs] at t0 t1 t2
 subst hx
 simp only [Rows.uptoBulk, List.map_cons, List.map_nil, Rows.uptoBulkAll] at hw
 obtain ⟨ro, rn, rc, R, rfl, Sr, r1⟩ := viewRT t2 (by omega)
 obtain ⟨ao, an, ac, A, rfl, Sa, a1⟩ := viewEu t0 (by omega)
 obtain ⟨p, ep, Sp, -⟩ := viewP t1 (by omega)
 simp only [List.cons.injEq, and_true] at ep
 obtain ⟨rfl, rfl⟩ := ep
 exact ⟨⟨ao, an, ac, A, p, ro, rn, rc, R⟩, rfl, ⟨Sa, Sp, Sr.src⟩, ⟨Sr.room, Sr.nil⟩, r1, a1⟩
end
section
open Go.RowKit
theorem fld_sw (s : Fc) (w : World) : (Instr.field 29 (FaV (mkF s)) 0).run Tryz.prog w = .ok (.slice s.ao s.an s.ac) w := by kernel_rfl
theorem sxP_form : InForm sxP := ⟨by decide, trivial⟩
theorem sx0_form : InForm pv0.P := ⟨by decide, trivial⟩
theorem pv0_runs (r : Nat) : runsAt pv0.P r = [] := by
 have h : V.at' [] r = 0 := by unfold V.at'; split <;> rfl
 show vecPart (V.at' [] r) ++ cloudPart [] r = []
 rw [h]; rfl
theorem pv0_no (r : Nat) (n : Int) : ¬ mem (runsAt pv0.P r) n := by rw [pv0_runs]; intro h; exact mem_nil n h
theorem sx_runs : ∀ r, r < 16 -> runsAt sxP r = dotsG ([sx1].map dotOf) r := fun r hr => match r, hr with
 | 0, _ => rfl | 1, _ => rfl | 2, _ => rfl | 3, _ => rfl | 4, _ => rfl | 5, _ => rfl | 6, _ => rfl | 7, _ => rfl | 8, _ => rfl | 9, _ => rfl | 10, _ => rfl | 11, _ => rfl | 12, _ => rfl | 13, _ => rfl | 14, _ => rfl | 15, _ => rfl
 | n + 16, h => absurd h (by omega)
theorem first_ev {f s : Fc} {er : Int} (h : EvS f s er) (h1 : f.es = [sx1]) (h2 : f.an = 1) (h3 : f.p = pv0) (h4 : f.rs = []) (h5 : f.rn = 0) : er = 0 /\ ∀ t, A1D t -> EqS s t := by
 have hFo : FormF f := by
  refine ⟨?_, ?_, ?_⟩
  ·rw [h1, h2]; decide +kernel
  ·rw [h3]; exact sx0_form
  ·rw [h4, h5]; intro j hj; omega
 have hOn : OneA f := .inr (.inl ⟨h2, h5, 0, .inl ⟨by rw [h1]; rfl, .inl ⟨rfl, fun n => by rw [h3]; exact pv0_no _ n⟩⟩, by rw [h1]; exact (show (0 : Int) < 1 by decide)⟩)
 have h0 : EvOf f 0 := .inr (.inr ⟨hFo, hOn, rfl⟩)
 rcases h with ⟨k1, k2, -⟩ | ⟨-, k2, k3⟩
 ·exact absurd (k1.unique h0) k2
 refine ⟨k2, fun t ht => ⟨by rw [k3.1, h1, ht.1], ?_, ?_⟩⟩
 ·refine k3.2.1.one ⟨by rw [ht.2.2.1]; exact sxP_form, fun r hr n => ?_⟩
  rw [ht.2.2.1, h1, h3]
  have : ¬ mem (runsAt pv0.P r) n := pv0_no r n
  constructor
  ·intro hm
   exact .inl (by rw [<- sx_runs r hr]; exact hm)
  ·rintro (hm | hm)
   ·rw [sx_runs r hr]; exact hm
   ·exact absurd hm this
 ·rw [k3.2.2.2, h4, ht.2.2.2.1]; rfl
attribute [local go_sem ↓] ldFa_eq stFa_eq ldSw_eq stSw_eq bldF_eq
attribute [local go_sem] cells_FaV FaC_size zero_FaZ bldF_lit
theorem swotEvents_law (f : Fc) (w : World) (hF : FcOk w f) (hR : FcR f) : Calls Tryz.prog 5 #[FaV (mkF f)] w fun e w' => e = .returned (.bool true) /\ Below w.heap.size w w' := by
 have b1 := below_new w (.cells (FaC (mkF f)) 59)
 have X1 := FaBox_new w (mkF f)
 obtain ⟨wk, hwk⟩ : ∃ w1, w.alloc (.cells (FaC (mkF f)) 59) = w1 := ⟨_, rfl⟩
 rw [hwk] at b1 X1
 obtain ⟨G, hG0⟩ : ∃ G, w.heap.size = G := ⟨_, rfl⟩
 rw [hG0] at X1
 have HX := hide X1
 have HBK := hide b1
 have HF := hide (hF.below b1)
 have HR := hide hR
 have HGs : Hid (w.heap.size = G) := hG0
 clear hF b1 X1 hR
 go_enter Tryz.func5, Tryz.ntmps5
 go_wp2_with fail
 clear hwk hG0
 refine (a1_any _).mono ?_
 rintro e w2 ⟨s1, rfl, F1, b2, D1⟩
 have HB2 := hide b2
 have HF1 : Hid (FcOk w2 ⟨s1.ao, s1.an, s1.ac, s1.es, pv0, none, 0, 0, []⟩) := ⟨F1.es, PSrc.zero _, RcS.empty _⟩
 have HD1 := hide D1
 clear F1 b2 D1
 have lfl := fld_sw s1 w2
 go_wp2_with fail
 clear lfl
 refine (swEvent_any ⟨s1.ao, s1.an, s1.ac, s1.es, pv0, none, 0, 0, []⟩ _ HF1.out ⟨Nat.le_refl _, fun _ => rfl⟩).mono ?_
 rintro e w3 ⟨s, er, rfl, Fs, b3, D3⟩
 obtain ⟨rfl, hst1⟩ := first_ev D3 HD1.out.1 HD1.out.2.1 rfl rfl rfl
 have HSt1 := hide hst1
 obtain ⟨g3, hg3⟩ : ∃ g, w3.heap.size = g := ⟨_, rfl⟩
 obtain ⟨w4, hst, X4, B4, -⟩ := madeSx w3 s g3 hg3
 have b34 := b3.trans (B4.mono b3.size)
 have HB4 := hide (HB2.out.trans (b34.mono HB2.out.size))
 have HX4 := hide X4
 have HFs := hide (Fs.below B4)
 have HSt : Hid (∀ W, SwBox W g3 (mkF s) -> (ldSw (.pointer (some ⟨g3, 0, none⟩))).run Tryz.prog W = .ok (FaV (mkF s)) W) := fun W h => run_ldSw h
 have HG3 : Hid (wk.heap.size <= g3) := by
  have h1 := HB2.out.size
  have h2 := b3.size
  show wk.heap.size <= g3
  omega
 clear Fs b3 D3 hst1 X4 B4 b34
 go_upto_region 2 with fail
 clear hst hg3
 refine wp_region_held_drew (S := fun W => (ldSw (.pointer (some ⟨g3, 0, none⟩))).run Tryz.prog W = .ok (FaV (mkF s)) W) (by kernel_rfl) (HSt.out _ (HX4.out.below (below_drew1 w4))) (fun hHeld => ?_)
 refine wTk 0 ⟨some 14, .move (.tmp 4), 31, "law.go:79", #[], none⟩ rfl ?_
 refine wTk 1 ⟨some 15, .binOp .neq 31 (.tmp 14) (.const (.int .i64 0)) 31, 4, "law.go:79", #[⟨0, .data⟩], none⟩ rfl ?_
 refine wTk 2 ⟨some 16, .move (.tmp 15), 4, "law.go:79", #[⟨1, .data⟩], none⟩ rfl ?_
 refine wTk 3 ⟨some 17, .load 29 (.tmp 3), 29, "law.go:79", #[⟨2, .guard⟩], some (2, false)⟩ rfl ?_
 refine wpAnyH_ready (rs := [4]) (by kernel_rfl) (by simp) (.cons rfl (fun K hK => ?_) .nil)
 go_simp
 go_wp2_with fail
 refine (a1_any _).mono ?_
 rintro x w5 ⟨s2, rfl, F2, b5, D2⟩
 have HB5 := hide ((below_drew1 w4).trans (b5.mono (below_drew1 w4).size))
 have HF2 := hide F2
 have HEq : Hid (EqS s s2) := HSt1.out s2 D2
 clear F2 b5 D2
 refine hK.out _ _ (HSt.out _ (HX4.out.below HB5.out)) (fun hHeld => ?_)
 clear hK K
 refine wpAnyH_ready (rs := [5]) (by kernel_rfl) (by simp) (.cons rfl (fun K hK => ?_) .nil)
 go_simp
 go_wp2_with fail
 refine (equal11_true s s2 _ (HFs.out.below HB5.out) HF2.out HEq.out).mono ?_
 rintro x w6 ⟨rfl, b6⟩
 have HB6 := hide (HB5.out.trans (b6.mono HB5.out.size))
 clear b6
 refine hK.out _ _ (HSt.out _ (HX4.out.below HB6.out)) (fun hHeld => ?_)
 clear hK K
 refine wTk 6 ⟨some 20, .unOp .not 4 (.tmp 19), 4, "law.go:79", #[⟨5, .data⟩, ⟨2, .guard⟩], some (2, false)⟩ rfl ?_
 refine wTk 7 ⟨some 21, .pick (.tmp 16) (.const (.bool true)) (.tmp 20), 4, "law.go:79", #[⟨2, .data⟩, ⟨6, .data⟩], none⟩ rfl ?_
 refine wpAnyH_done (by kernel_rfl) ?_ _
 clear hHeld
 have HB7 := hide (HB4.out.trans (HB6.out.mono HB4.out.size))
 have HX7 := hide (HX4.out.below HB6.out)
 have lf := run_ldFa (HX.out.below HB7.out)
 go_wp2_with fail
 clear lf
 refine (refEvent11_any f _ (HF.out.below HB7.out)).mono ?_
 rintro e w7 ⟨t, et, rfl, Ft, b7, Et⟩
 obtain ⟨g5, hg5⟩ : ∃ g, w7.heap.size = g := ⟨_, rfl⟩
 obtain ⟨w8, hst, X8, B8, -⟩ := madeSx w7 t g5 hg5
 have b78 := b7.trans (B8.mono b7.size)
 have HB8 := hide (HB7.out.trans (b78.mono HB7.out.size))
 have HT8 := hide X8
 have HFt := hide (Ft.below B8)
 have HEt := hide Et
 have HX8 := hide (HX7.out.below b78)
 have HG5 : Hid (g3 < g5) := by
  have h1 := HX7.out.lt
  have h2 := b7.size
  show g3 < g5
  omega
 have lf := run_ldFa (HX.out.below HB8.out)
 clear Ft b7 Et X8 B8 b78
 go_wp2_with fail
 clear lf hst hg5
 refine (swEvent_any f _ (HF.out.below HB8.out) HR.out).mono ?_
 rintro e w9 ⟨s', es, rfl, Fs, b9, Es⟩
 obtain ⟨rfl, hq⟩ := EvS.one Es HEt.out
 have A9 := HX8.out.below b9
 have st := run_stSw (m' := mkF s') A9
 have HY : Hid (SwBox (w9.setRow g3 (FaC (mkF s'))) g3 (mkF s') /\ SwBox (w9.setRow g3 (FaC (mkF s'))) g5 (mkF t)) := ⟨A9.setRow, (setRow_other _ _ _ _ (by have := HG5.out; omega)).trans (HT8.out.below b9)⟩
 have HFF : Hid (FcOk (w9.setRow g3 (FaC (mkF s'))) s' /\ FcOk (w9.setRow g3 (FaC (mkF s'))) t) := ⟨Fs.offW A9 _, (HFt.out.below b9).offW A9 _⟩
 have HB9 : Hid (Below wk.heap.size wk (w9.setRow g3 (FaC (mkF s')))) := below_setRow (HB8.out.trans (b9.mono HB8.out.size)) HG3.out
 have HQ : Hid (EqS s' t) := hq
 have l3 := run_ldSw HY.out.1
 have l5 := run_ldSw HY.out.2
 have hee : ((es : Int) == es) = true := by simp
 clear Fs b9 Es A9 hq
 go_wp2_with fail
 clear st l3 l5 hee
 refine (equal11_true s' t _ HFF.out.1 HFF.out.2 HQ.out).mono ?_
 rintro e wz ⟨rfl, bz⟩
 have HE := hide (HBK.out.trans ((HB9.out.trans (bz.mono HB9.out.size)).mono HBK.out.size))
 clear bz
 go_wp2_with fail
 go_ret
 exact ⟨rfl, HE.out⟩
theorem swotEvents_lawU (f : Fc) (w : World) (h : FcU w f) : Calls Tryz.prog 5 #[FaV (mkF f)] w fun e w' => e = .returned (.bool true) /\ Below w.heap.size w w' := swotEvents_law f w h.ok h.row
end
end Go.Proofs.YtaphmhbmhcahaaaGreat
