/- TVf TUn TOr TEz -/
import Derived.Test.YtalpnhfoaohhhaaGreatTk
import Derived.Test.YtalpnhfoaohhhaaGreatTs30
import Derived.Test.YtalpnhfoaohhhaaGreatTs38
import Derived.Test.YtalpnhfoaohhhaaGreatTs36
import Derived.Test.YtalpnhfoaohhhaaGreatTs35
namespace Go.Proofs.YtalpnhfoaohhhaaGreat
open Go.ChangeShapes Go.WideShapes Go.ChangeAt Go.RowKit Go.Joins

def RSmT (L : List Rc) : Prop := L.length ≤ 209715 ∧ ∀ r ∈ L, r.p.P.cloud.length ≤ 1048576
structure FcU (w : World) (f : Fc) : Prop where
 ok : FcOk w f
 row : FcR f
 sm : RSmT f.rs
 an : f.an ≤ 1048576
theorem FcU.rn {w : World} {f : Fc} (h : FcU w f) : f.rn ≤ 209715 := by rw [← h.ok.rs.len]; exact h.sm.1
theorem cellsRe : Tryz.prog.cellsOf 62 = 3 := by kernel_rfl
theorem cellsSk : Tryz.prog.cellsOf 9 = 1 := by kernel_rfl
theorem cellsEs : Tryz.prog.cellsOf 22 = 1 := by kernel_rfl
theorem cellsRs : Tryz.prog.cellsOf 27 = 1 := by kernel_rfl
theorem cellsFa : Tryz.prog.cellsOf 29 = 4 := by kernel_rfl
theorem bulk_at {H : Type} : ∀ (l : List (DataW H)) (d : DataW H), d ∈ l → Rows.uptoBulk d ≤ Rows.uptoBulkAll l
 | e :: l, d, h => by
  simp only [Rows.uptoBulkAll]
  rcases List.mem_cons.1 h with rfl | h
  ·omega
  ·have := bulk_at l d h; omega
theorem bulk_five {H : Type} : ∀ (l : List (DataW H)), (∀ d ∈ l, 5 ≤ Rows.uptoBulk d) → 5 * l.length ≤ Rows.uptoBulkAll l
 | [], _ => by simp
 | d :: l, h => by
  have h1 := bulk_five l (fun e he => h e (List.mem_cons_of_mem _ he))
  have h2 := h d List.mem_cons_self
  simp only [Rows.uptoBulkAll, List.length_cons]; omega
theorem viewEu {H : Type} {enc : TypeId × Value → H} {W : World} {fuel : Nat} {v : Value} {x : DataW H × List MemPlace}
  (h : DataW.trod enc Tryz.prog W 0 (fun _ => true) true fuel 22 [v] = some x) (hw : Rows.uptoBulk x.1 ≤ 1048576) : ∃ (ao : Option Addr) (n cap : Nat) (L : List K.En), v = .slice ao n cap ∧ K.ESrc W ao n cap L ∧ n ≤ 1048576 := by
 rcases DataW.trod_slice Tryz.underlying22 h with h0 | ⟨a, len, cap, elems, rest, n, _, hcs, hx, hb, hl, hm, hlen, hel, hsp, hns⟩
 ·have e : v = .slice none 0 0 := by simpa using h0.1
  exact ⟨none, 0, 0, [], e, ⟨rfl, fun _ => ⟨rfl, rfl⟩, fun ad h => (by cases h), fun e he => (by cases he), Nat.zero_le _⟩, Nat.zero_le _⟩
 ·subst hx
  have e : v = .slice (some a) len cap := by simpa using hcs
  simp only [Rows.uptoBulk] at hw
  have h1 := bulk_len (elems.map (·.1))
  simp only [List.length_map] at h1
  have key : ∀ i, i < len → ∃ e : K.En, K.EnAt W (a.add (i * 4)) e ∧ e.sku.size ≤ maxLen := by
   intro i hi
   have he := hel i hi
   obtain ⟨y, hy⟩ : ∃ y, elems[i]? = some y := ⟨_, List.getElem?_eq_getElem (by omega)⟩
   rw [hy, K.cells28, Option.bind_eq_some_iff] at he
   obtain ⟨cs', hcs, hy'⟩ := he
   obtain ⟨_, -, hce⟩ := World.cells?_some hcs
   obtain ⟨e, rfl, hs⟩ := K.open_entry hy'
   have g0 := hce 0 (by omega)
   rw [add_zero] at g0
   exact ⟨e, ⟨g0, hce 1 (by omega), hce 2 (by omega), hce 3 (by omega)⟩, hs⟩
  refine ⟨some a, len, cap, (List.range len).map fun i => if h : i < len then Classical.choose (key i h) else K.en0, e, ⟨by simp, fun h => (by cases h), fun ad h t ht => ?_, fun e he => ?_, by omega⟩, by omega⟩
  ·obtain rfl := Option.some.inj h
   have : ((List.range len).map fun i => if h : i < len then Classical.choose (key i h) else K.en0).getD t K.en0 = Classical.choose (key t ht) := by simp [List.getD, ht]
   rw [this]
   exact (Classical.choose_spec (key t ht)).1
  ·simp only [List.mem_map, List.mem_range] at he
   obtain ⟨i, hi, rfl⟩ := he
   rw [dif_pos hi]
   exact (Classical.choose_spec (key i hi)).2
theorem past_bulk {H : Type} {enc : TypeId × Value → H} {W : World} {fuel : Nat} {cs : List Value} {x : DataW H × List MemPlace}
  (h : DataW.trod enc Tryz.prog W 0 (fun _ => true) true fuel 26 cs = some x) : 3 ≤ Rows.uptoBulk x.1 := by
 obtain ⟨xs, m, _, hx, hcl, hxl, hf⟩ := DataW.trod_struct Tryz.underlying26 h
 obtain ⟨y0, y1, rfl⟩ := list2 hxl
 subst hx
 have h0 := bulk_pos y0.1
 have h1 := bulk_pos y1.1
 simp only [Rows.uptoBulk, List.map_cons, List.map_nil, Rows.uptoBulkAll]
 omega
theorem open_recordU {H : Type} {enc : TypeId × Value → H} {W : World} {fuel : Nat} {cs : List Value} {x : DataW H × List MemPlace}
  (h : DataW.trod enc Tryz.prog W 0 (fun _ => true) true fuel 62 cs = some x) : 5 ≤ Rows.uptoBulk x.1 ∧ (Rows.uptoBulk x.1 ≤ 1048576 → ∃ r : Rc, cs = (ReC (mkR r)).toList ∧ RcOk W r ∧ r.p.P.cloud.length ≤ 1048576) := by
 obtain ⟨xs, m, _, hx, hcl, hxl, hf⟩ := DataW.trod_struct Tryz.underlying62 h
 obtain ⟨v0, v1, v2, rfl⟩ := list3 (hcl.trans cellsRe)
 obtain ⟨y0, y1, rfl⟩ := list2 hxl
 have t0 := hf 0 _ rfl
 have t1 := hf 1 _ rfl
 simp [cellsP, cellsSk] at t0 t1
 subst hx
 simp only [Rows.uptoBulk, List.map_cons, List.map_nil, Rows.uptoBulkAll]
 have b0 := bulk_pos y0.1
 have b1 := past_bulk t1
 refine ⟨by omega, fun hw => ?_⟩
 obtain ⟨s, e0, -, hs⟩ := DataW.trod_string Tryz.underlying9 t0
 obtain ⟨p, ep, Sp, hl⟩ := viewP t1 (by omega)
 simp only [List.cons.injEq, and_true] at e0 ep
 obtain ⟨rfl, rfl⟩ := ep
 subst e0
 exact ⟨⟨s, p⟩, rfl, ⟨Sp, hs⟩, hl⟩
theorem viewRT {H : Type} {enc : TypeId × Value → H} {W : World} {fuel : Nat} {v : Value} {x : DataW H × List MemPlace}
  (h : DataW.trod enc Tryz.prog W 0 (fun _ => true) true fuel 27 [v] = some x) (hw : Rows.uptoBulk x.1 ≤ 1048576) : ∃ (ao : Option Addr) (n cap : Nat) (L : List Rc), v = .slice ao n cap ∧ RcT W ao n cap L ∧ RSmT L := by
 rcases DataW.trod_slice Tryz.underlying27 h with h0 | ⟨a, len, cap, elems, rest, n, _, hcs, hx, hb, hl, hm, hlen, hel, hsp, hns⟩
 ·have e : v = .slice none 0 0 := by simpa using h0.1
  exact ⟨none, 0, 0, [], e, ⟨RcS.empty _, Nat.le_refl _, fun _ => rfl⟩, Nat.zero_le _, fun r hr => by cases hr⟩
 ·subst hx
  have e : v = .slice (some a) len cap := by simpa using hcs
  simp only [Rows.uptoBulk] at hw
  have op : ∀ i (hi : i < elems.length), i < len ∧ ∃ cs', (5 ≤ Rows.uptoBulk elems[i].1 ∧ (Rows.uptoBulk elems[i].1 ≤ 1048576 → ∃ r : Rc, cs' = (ReC (mkR r)).toList ∧ RcOk W r ∧ r.p.P.cloud.length ≤ 1048576)) ∧ (∀ j, j < 3 → W.cell? ((a.add (i * 3)).add j) = cs'[j]?) := by
   intro i hi
   have hi' : i < len := by omega
   have he := hel i hi'
   rw [List.getElem?_eq_getElem hi, cellsRe, Option.bind_eq_some_iff] at he
   obtain ⟨cs', hcs, hy'⟩ := he
   obtain ⟨_, -, hce⟩ := World.cells?_some hcs
   exact ⟨hi', cs', open_recordU hy', fun j hj => hce j hj⟩
  have h5 := bulk_five (elems.map (·.1)) (fun d hd => by
   obtain ⟨y, hy, rfl⟩ := List.mem_map.1 hd
   obtain ⟨i, hi, rfl⟩ := List.getElem_of_mem hy
   obtain ⟨-, _, h, -⟩ := op i hi
   exact h.1)
  simp only [List.length_map] at h5
  have key : ∀ i, i < len → ∃ r : Rc, ReAt W (a.add (i * 3)) (mkR r) ∧ RcOk W r ∧ r.p.P.cloud.length ≤ 1048576 := by
   intro i hi
   have hi' : i < elems.length := by omega
   obtain ⟨-, cs', h, hce⟩ := op i hi'
   obtain ⟨r, rfl, hr, hl2⟩ := h.2 (by have := bulk_at (elems.map (·.1)) elems[i].1 (List.mem_map_of_mem (f := (·.1)) (List.getElem_mem hi')); omega)
   have g0 := hce 0 (by omega)
   rw [add_zero] at g0
   exact ⟨r, ⟨g0, hce 1 (by omega), hce 2 (by omega)⟩, hr, hl2⟩
  refine ⟨some a, len, cap, (List.range len).map fun i => if h : i < len then Classical.choose (key i h) else rc0, e, ⟨⟨by simp, (fun h => by cases h), fun ad h t ht => ?_, fun r hr => ?_, by omega⟩, hl, fun h => by cases h⟩, by simp; omega, fun r hr => ?_⟩
  ·obtain rfl := Option.some.inj h
   have : ((List.range len).map fun i => if h : i < len then Classical.choose (key i h) else rc0).getD t rc0 = Classical.choose (key t ht) := by simp [List.getD, ht]
   rw [this]
   exact (Classical.choose_spec (key t ht)).1
  ·simp only [List.mem_map, List.mem_range] at hr
   obtain ⟨i, hi, rfl⟩ := hr
   rw [dif_pos hi]
   exact (Classical.choose_spec (key i hi)).2.1
  ·simp only [List.mem_map, List.mem_range] at hr
   obtain ⟨i, hi, rfl⟩ := hr
   rw [dif_pos hi]
   exact (Classical.choose_spec (key i hi)).2.2
theorem open_factsU {H : Type} {enc : TypeId × Value → H} {W : World} {fuel : Nat} {cs : List Value} {x : DataW H × List MemPlace}
  (h : DataW.trod enc Tryz.prog W 0 (fun _ => true) true fuel 29 cs = some x) (hw : Rows.uptoBulk x.1 ≤ 1048576) : ∃ f : Fc, cs = (FaC (mkF f)).toList ∧ FcU W f := by
 obtain ⟨xs, m, _, hx, hcl, hxl, hf⟩ := DataW.trod_struct Tryz.underlying29 h
 obtain ⟨v0, v1, v2, v3, rfl⟩ := K.list4 (hcl.trans cellsFa)
 obtain ⟨y0, y1, y2, rfl⟩ := list3 hxl
 have t0 := hf 0 _ rfl
 have t1 := hf 1 _ rfl
 have t2 := hf 2 _ rfl
 simp [cellsP, cellsEs, cellsRs] at t0 t1 t2
 subst hx
 simp only [Rows.uptoBulk, List.map_cons, List.map_nil, Rows.uptoBulkAll] at hw
 obtain ⟨ro, rn, rc, R, rfl, Sr, r1⟩ := viewRT t2 (by omega)
 obtain ⟨ao, an, ac, A, rfl, Sa, a1⟩ := viewEu t0 (by omega)
 obtain ⟨p, ep, Sp, -⟩ := viewP t1 (by omega)
 simp only [List.cons.injEq, and_true] at ep
 obtain ⟨rfl, rfl⟩ := ep
 exact ⟨⟨ao, an, ac, A, p, ro, rn, rc, R⟩, rfl, ⟨Sa, Sp, Sr.src⟩, ⟨Sr.room, Sr.nil⟩, r1, a1⟩
end Go.Proofs.YtalpnhfoaohhhaaGreat
namespace Go.Proofs.YtalpnhfoaohhhaaGreat
open Go.RowKit
theorem wi_left {h f : Fc} {E : K.En → Prop} {M : Nat → Int → Prop} {R : Rp → Prop} (i : IsF h E M R) (h1 : ∀ x ∈ f.es, E x) (h2 : ∀ r, r < 16 → ∀ n, mem (runsAt f.p.P r) n → M r n) (h3 : ∀ y ∈ plR f.rs, R y) : WiOf f h :=
 ⟨fun x hx => (i.es x).2 (h1 x hx), fun r hr n q => (i.p r hr n).2 (h2 r hr n q), fun y hy => (i.rs y).2 (h3 y hy)⟩
theorem WtD.holds {f g : Fc} {b : Bool} {er : Int} (h : WtD f g b er) (h1 : FormF f) (h2 : FormF g) : er = 0 ∧ (b = true ↔ WiOf f g) := by
 rcases h with ⟨q, -⟩ | ⟨-, -, q⟩
 ·exact absurd ⟨h1, h2⟩ q
 ·exact q
attribute [local go_sem ↓] ldFa_eq stFa_eq
attribute [local go_sem] cells_FaV FaC_size zero_FaZ
end Go.Proofs.YtalpnhfoaohhhaaGreat
namespace Go.Proofs.YtalpnhfoaohhhaaGreat
open Go.RowKit
def LsD (f g h : Fc) (er : Int) : Prop := (¬ (FormF f ∧ FormF g) ∧ er = 1 ∧ h = fz0) ∨ (FormF f ∧ FormF g ∧ er = 0 ∧ LeOf f g h)
attribute [local go_sem ↓] ldP_eq stP_eq ldFa_eq stFa_eq bldF_eq
attribute [local go_sem] cells_PV PC_size cells_FaV FaC_size zero_FaZ run_bldF0 run_bldF12
set_option maxRecDepth 100000 in
set_option maxHeartbeats 3200000 in
theorem tLess_any (f g : Fc) (w : World) (hF : FcOk w f) (hG : FcOk w g) (hn : f.rn ≤ 2199023255551) :
  Calls Tryz.prog 24 #[FaV (mkF f), FaV (mkF g)] w fun e w' => FcD w w' e (LsD f g) := by
 obtain ⟨w2, hw2, HX2, HY2, HB2⟩ := box2F w f g
 have b3 := below_new w2 (.cells (FaC (mkF fz0)) 29)
 have X3 := FaBox_new w2 (mkF fz0)
 have hs2 : w2.heap.size = w.heap.size + 2 := by rw [← hw2]; simp
 obtain ⟨wk, hwk⟩ : ∃ wk, w2.alloc (.cells (FaC (mkF fz0)) 29) = wk := ⟨_, rfl⟩
 rw [hwk] at b3 X3
 rw [hs2] at X3
 obtain ⟨G, hG0⟩ : ∃ G, w.heap.size = G := ⟨_, rfl⟩
 rw [hG0] at X3 HX2 HY2
 have HX := hide (HX2.out.below b3)
 have HY := hide (HY2.out.below b3)
 have HZ := hide X3
 have HBK := hide (HB2.out.trans (b3.mono HB2.out.size))
 have HF := hide (hF.below HBK.out)
 have HG := hide (hG.below HBK.out)
 have HN := hide hn
 have HGs : Hid (w.heap.size = G) := hG0
 clear hF hG hn b3 X3 HX2 HY2 HB2
 have lf := run_ldFa HX.out
 have lg := run_ldFa HY.out
 go_enter Tryz.func24, Tryz.ntmps24
 go_wp2_with fail
 clear hw2 hwk hs2 hG0
 refine (checkBoth_any f g _ HF.out HG.out).mono ?_
 rintro e w3 ⟨x, rfl, hx, b3⟩
 have HB3 := hide (HBK.out.trans (b3.mono HBK.out.size))
 have HX3 := hide (HX.out.below b3)
 have HY3 := hide (HY.out.below b3)
 have HZ3 := hide (HZ.out.below b3)
 have HF3 := hide (HF.out.below b3)
 have HG3 := hide (HG.out.below b3)
 clear b3 lf lg
 rcases hx with ⟨rfl, h1, h2⟩ | ⟨rfl, h1⟩
 rotate_left
 ·have st0 := run_stFa (m' := mkF fz0) HZ3.out
  have HE := hide (give_fc (w := w) (f := fz0) (er := 1) (LsD f g) HZ3.out (fz0_ok _) fz0_row (fz0_new _) HB3.out (by rw [HGs.out]; omega) (.inl ⟨h1, rfl, rfl⟩))
  clear h1
  go_wp2_with fail
  clear st0
  refine bodyPost_ret (res2Fb rfl rfl rfl HE.out.1) rfl ?_
  exact HE.out.2
 have HFo : Hid (FormF f ∧ FormF g) := ⟨h1, h2⟩
 clear h1 h2
 have lf := run_ldFa HX3.out
 have lg := run_ldFa HY3.out
 go_wp2_with fail
 clear lf lg
 refine (tless_any f g _ HF3.out HG3.out HFo.out.1 HFo.out.2 HN.out).mono ?_
 rintro e w4 ⟨h, rfl, F4, R4, N4, b4, L4⟩
 have HB4 := hide (HB3.out.trans (b4.mono HB3.out.size))
 have HZ4 := hide (HZ3.out.below b4)
 have hz : G + 2 + 1 ≤ w3.heap.size := by have := HZ3.out.lt; omega
 have stz := run_stFa (m' := mkF h) HZ4.out
 replace stz : (stFa (.pointer (some ⟨G + 2, 0, none⟩)) (FaV (mkF h))).run Tryz.prog w4 = .ok () (w4.setRow (G + 2) (FaC (mkF h))) := stz
 have HE := hide (give_fc (w := w) (f := h) (er := 0) (LsD f g) HZ4.out F4 R4 (N4.mono hz) HB4.out (by rw [HGs.out]; omega) (.inr ⟨HFo.out.1, HFo.out.2, rfl, L4⟩))
 clear F4 R4 N4 b4 L4 hz
 go_wp2_with fail
 clear stz
 refine bodyPost_ret (res2Fb rfl rfl rfl HE.out.1) rfl ?_
 exact HE.out.2
def ordK (x y : Bool) : Int := if x && y then 0 else if x then 1 else if y then 2 else 3
def OrD (f g : Fc) (k er : Int) : Prop := (¬ (FormF f ∧ FormF g) ∧ k = 0 ∧ er = 1) ∨ (FormF f ∧ FormF g ∧ er = 0 ∧ ∃ x y : Bool, (x = true ↔ WiOf f g) ∧ (y = true ↔ WiOf g f) ∧ k = ordK x y)
set_option maxRecDepth 100000 in
set_option maxHeartbeats 3200000 in
theorem tOrder_any (f g : Fc) (w : World) (hF : FcOk w f) (hG : FcOk w g) (hn : f.rn ≤ 2199023255551) (hm : g.rn ≤ 2199023255551) :
  Calls Tryz.prog 17 #[FaV (mkF f), FaV (mkF g)] w fun e w' => ∃ k er, e = .returned (.tuple #[.int .i64 k, .int .i64 er]) ∧ OrD f g k er ∧ Below w.heap.size w w' := by
 obtain ⟨w2, hw2, HX, HY, HBK⟩ := box2F w f g
 obtain ⟨G, hG0⟩ : ∃ G, w.heap.size = G := ⟨_, rfl⟩
 rw [hG0] at HX HY
 have HF := hide (hF.below HBK.out)
 have HG := hide (hG.below HBK.out)
 have HN := hide (And.intro hn hm)
 clear hF hG hn hm
 have lf := run_ldFa HX.out
 have lg := run_ldFa HY.out
 go_enter Tryz.func17, Tryz.ntmps17
 go_wp2_with fail
 clear hw2 hG0 lf lg
 refine (checkBoth_any f g _ HF.out HG.out).mono ?_
 rintro e w3 ⟨x, rfl, hx, b3⟩
 have HB3 := hide (HBK.out.trans (b3.mono HBK.out.size))
 have HX3 := hide (HX.out.below b3)
 have HY3 := hide (HY.out.below b3)
 have HF3 := hide (HF.out.below b3)
 have HG3 := hide (HG.out.below b3)
 clear b3
 rcases hx with ⟨rfl, h1, h2⟩ | ⟨rfl, h1⟩
 rotate_left
 ·have HE : Hid (∃ k er, Ending.returned (.tuple #[.int .i64 0, .int .i64 1]) = .returned (.tuple #[.int .i64 k, .int .i64 er]) ∧ OrD f g k er ∧ Below w.heap.size w w3) := ⟨0, 1, rfl, .inl ⟨h1, rfl, rfl⟩, HB3.out⟩
  clear h1
  go_wp2_with fail
  go_ret2
  exact HE.out
 have HFo : Hid (FormF f ∧ FormF g) := ⟨h1, h2⟩
 clear h1 h2
 have HSt : Hid (∀ W : World, W.heap[G]? = w3.heap[G]? → W.heap[G + 1]? = w3.heap[G + 1]? → (ldFa (.pointer (some ⟨G, 0, none⟩))).run Tryz.prog W = .ok (FaV (mkF f)) W ∧ (ldFa (.pointer (some ⟨G + 1, 0, none⟩))).run Tryz.prog W = .ok (FaV (mkF g)) W) := fun W h1 h2 => by
  have X : FaBox W G (mkF f) := h1.trans HX3.out
  have Y : FaBox W (G + 1) (mkF g) := h2.trans HY3.out
  exact ⟨run_ldFa X, run_ldFa Y⟩
 go_upto_region 4 with fail
 refine wp_region_held_drew (S := fun v => (ldFa (.pointer (some ⟨G, 0, none⟩))).run Tryz.prog v = .ok (FaV (mkF f)) v ∧ (ldFa (.pointer (some ⟨G + 1, 0, none⟩))).run Tryz.prog v = .ok (FaV (mkF g)) v) (by kernel_rfl) (HSt.out _ rfl rfl) (fun hHeld => ?_)
 refine wTk 0 ⟨some 15, .load 29 (.tmp 2), 29, "order.go:31", #[], none⟩ rfl ?_
 refine wTk 1 ⟨some 16, .load 29 (.tmp 3), 29, "order.go:31", #[], none⟩ rfl ?_
 refine wTk 3 ⟨some 18, .load 29 (.tmp 3), 29, "order.go:31", #[], none⟩ rfl ?_
 refine wTk 4 ⟨some 19, .load 29 (.tmp 2), 29, "order.go:31", #[], none⟩ rfl ?_
 refine wpAnyH_ready (rs := [2]) (by kernel_rfl) (by simp) (.cons rfl (fun K hK => ?_) .nil)
 go_simp
 go_wp2_with fail
 have bd := below_drew1 w3
 refine (twithin_any f g _ (HF3.out.below bd) (HG3.out.below bd) HFo.out.1 HFo.out.2 HN.out.1).mono ?_
 rintro e wa ⟨x, rfl, hx, ba0⟩
 have ba := bd.trans (ba0.mono bd.size)
 have HFa := hide (HF3.out.below ba)
 have HGa := hide (HG3.out.below ba)
 have HSa := hide (HSt.out _ (ba.block G HX3.out.lt) (ba.block (G + 1) HY3.out.lt))
 have Hx := hide hx
 refine hK.out _ _ HSa.out (fun hHeld => ?_)
 clear hK K ba0 hx
 refine wpAnyH_ready (rs := [5]) (by kernel_rfl) (by simp) (.cons rfl (fun K hK => ?_) .nil)
 go_simp
 go_wp2_with fail
 refine (twithin_any g f _ HGa.out HFa.out HFo.out.2 HFo.out.1 HN.out.2).mono ?_
 rintro e wb ⟨y, rfl, hy, bb0⟩
 have bb := ba.trans (bb0.mono ba.size)
 have HSb := hide (HSt.out _ (bb.block G HX3.out.lt) (bb.block (G + 1) HY3.out.lt))
 have Hy := hide hy
 have HBb := hide (HB3.out.trans (bb.mono HB3.out.size))
 refine hK.out _ _ HSb.out (fun hHeld => ?_)
 clear hK K bb0 hy bb ba bd
 refine wTk 6 ⟨some 7, .assign (.tmp 17), 4, "order.go:31", #[⟨2, .data⟩, ⟨5, .chain⟩, ⟨0, .phase⟩, ⟨1, .phase⟩, ⟨2, .phase⟩, ⟨3, .textOnly .lateStores⟩, ⟨4, .textOnly .lateStores⟩, ⟨5, .textOnly .lateStoresUnsure⟩], none⟩ rfl ?_
 refine wTk 7 ⟨some 8, .assign (.tmp 20), 4, "order.go:31", #[⟨5, .data⟩, ⟨6, .chain⟩, ⟨0, .phase⟩, ⟨1, .phase⟩, ⟨2, .phase⟩, ⟨3, .phase⟩, ⟨4, .phase⟩, ⟨5, .phase⟩, ⟨6, .phase⟩], none⟩ rfl ?_
 refine wpAnyH_done (by kernel_rfl) ?_ _
 clear hHeld
 have HE : Hid (∃ k er, Ending.returned (.tuple #[.int .i64 (ordK x y), .int .i64 0]) = .returned (.tuple #[.int .i64 k, .int .i64 er]) ∧ OrD f g k er ∧ Below w.heap.size w wb) := ⟨_, 0, rfl, .inr ⟨HFo.out.1, HFo.out.2, rfl, x, y, Hx.out, Hy.out, rfl⟩, HBb.out⟩
 clear Hx Hy
 cases x with
 | false =>
  cases y with
  | false =>
   go_wp2_with fail
   go_ret2
   exact HE.out
  | true =>
   go_wp2_with fail
   go_ret2
   exact HE.out
 | true =>
  cases y with
  | false =>
   go_wp2_with fail
   go_ret2
   exact HE.out
  | true =>
   go_wp2_with fail
   go_ret2
   exact HE.out
end Go.Proofs.YtalpnhfoaohhhaaGreat
namespace Go.Proofs.YtalpnhfoaohhhaaGreat
open Go.RowKit
set_option maxRecDepth 100000 in
theorem sameN_any (ao bo : Option Addr) (n cap m cap' : Nat) (w : World) (h : n ≠ m) :
  Calls Tryz.prog 39 #[.slice ao n cap, .slice bo m cap'] w fun e w' => e = .returned (.bool false) ∧ Below w.heap.size w w' := by
 have hne : ((n : Int) != (m : Int)) = true := by simp; omega
 have HB := hide (Below.refl w.heap.size w)
 go_enter Tryz.func39, Tryz.ntmps39
 go_wp2_with fail
 go_ret
 exact ⟨rfl, HB.out⟩
attribute [local go_sem ↓] ldP_eq stP_eq ldFa_eq stFa_eq
attribute [local go_sem] cells_PV PC_size cells_FaV FaC_size
set_option maxRecDepth 100000 in
set_option maxHeartbeats 1600000 in
theorem equal10_z (f : Fc) (w : World) (hF : FcOk w f) : Calls Tryz.prog 16 #[FaV (mkF f), FaV (mkF fz0)] w fun e w' => GivesB w w' e (EqF f fz0) := by
 obtain ⟨wk, hwk, HX, HY, HBK⟩ := box2F w f fz0
 have HS := hide (hF.below HBK.out)
 have HR := hide (fz0_ok wk)
 clear hF
 obtain ⟨c0, c3⟩ := HX.out.cs
 obtain ⟨d0, d3⟩ := HY.out.cs
 go_enter Tryz.func16, Tryz.ntmps16
 go_wp2_with fail
 clear hwk
 by_cases h0 : f.an = 0
 rotate_left
 ·refine (sameN_any f.ao fz0.ao f.an f.ac fz0.an fz0.ac _ h0).mono ?_
  rintro e w1 ⟨rfl, b1⟩
  have HE : Hid (GivesB w w1 (.returned (.bool false)) (EqF f fz0)) := ⟨false, rfl, ⟨fun h => (by cases h), fun q => absurd (by rw [← HS.out.es.1, q.1]; rfl) h0⟩, HBK.out.trans (b1.mono HBK.out.size)⟩
  clear b1 c0 c3 d0 d3
  go_wp2_with fail
  go_ret
  exact HE.out
 have he : f.es = fz0.es := by
  have := HS.out.es.1
  rw [h0] at this
  exact List.length_eq_zero_iff.1 this
 have HE0 := hide he
 refine (K.same_any f.ao fz0.ao f.an f.ac fz0.an fz0.ac f.es fz0.es _ HS.out.es HR.out.es he).mono ?_
 rintro e w1 ⟨rfl, b1⟩
 have HB1 := hide (HBK.out.trans (b1.mono HBK.out.size))
 have HX1 := hide (HX.out.below b1)
 have HY1 := hide (HY.out.below b1)
 have HS1 := hide (HS.out.below b1)
 have HR1 := hide (HR.out.below b1)
 clear b1 c0 c3 d0 d3 he h0
 have lp := run_ldP HX1.out.past
 have lq := run_ldP HY1.out.past
 go_wp2_with fail
 clear lp lq
 refine (samePast_any f.p fz0.p _ HS1.out.p HR1.out.p).mono ?_
 rintro e w2 ⟨b, rfl, hb, b2⟩
 have HB2 := hide (HB1.out.trans (b2.mono HB1.out.size))
 have HX2 := hide (HX1.out.below b2)
 have HY2 := hide (HY1.out.below b2)
 have HS2 := hide (HS1.out.below b2)
 have HR2 := hide (HR1.out.below b2)
 clear b2
 cases b with
 | false =>
  have HE : Hid (GivesB w w2 (.returned (.bool false)) (EqF f fz0)) := ⟨false, rfl, ⟨fun h => (by cases h), fun q => by have := hb.2 q.2.1; cases this⟩, HB2.out⟩
  clear hb
  go_wp2_with fail
  go_ret
  exact HE.out
 | true =>
  have HP0 := hide (hb.1 rfl)
  clear hb
  obtain ⟨-, c3⟩ := HX2.out.cs
  obtain ⟨-, d3⟩ := HY2.out.cs
  go_wp2_with fail
  clear c3 d3
  refine (sameRecs10_any f.ro fz0.ro f.rn fz0.rn f.rc fz0.rc f.rs fz0.rs _ HS2.out.rs HR2.out.rs).mono ?_
  rintro e w3 ⟨b, rfl, hb, b3⟩
  have HE : Hid (GivesB w w3 (.returned (.bool b)) (EqF f fz0)) := ⟨b, rfl, ⟨fun h => ⟨HE0.out, HP0.out, hb.1 h⟩, fun q => hb.2 q.2.2⟩, HB2.out.trans (b3.mono HB2.out.size)⟩
  clear b3 hb
  go_wp2_with fail
  go_ret
  exact HE.out
theorem less_isF {w w0 : World} {f g h : Fc} (hf : FcOk w0 f) (hh : FcOk w h) (Ff : FormF f) (L : LeOf f g h) :
  IsF h (fun x => x ∈ f.es ∧ x ∉ g.es) (fun r n => mem (runsAt f.p.P r) n ∧ ¬ mem (runsAt g.p.P r) n) (fun y => y ∈ plR f.rs ∧ y ∉ plR g.rs) := by
 obtain ⟨C, h1, h2⟩ := L.2.1
 refine ⟨⟨(chk_okN hh.es.1).1 (by rw [L.1]; exact chk_filter ((chk_okN hf.es.1).2 Ff.1) _), canon_iff.1 h2.canon, by have := okR_iff.2 (⟨L.2.2.1.2.1, L.2.2.1.1⟩ : (∀ r ∈ h.rs, RecOk r) ∧ Srt ck (plR h.rs)); rwa [hh.rs.len] at this⟩, ⟨hh.es.1, hh.rs.len⟩, fun x => by rw [L.1, List.mem_filter, notIn_iff], fun r hr n => ?_, L.2.2.1.2.2⟩
 rw [canon_mem h2 r hr n]
 exact (h1 r hr).2 n
theorem eqz_iff {f g h : Fc} (I : IsF h (fun x => x ∈ f.es ∧ x ∉ g.es) (fun r n => mem (runsAt f.p.P r) n ∧ ¬ mem (runsAt g.p.P r) n) (fun y => y ∈ plR f.rs ∧ y ∉ plR g.rs)) : EqF h fz0 ↔ WiOf f g := by
 constructor
 ·rintro ⟨h1, h2, h3⟩
  refine ⟨fun x hx => Classical.byContradiction fun hn => ?_, fun r hr n q => Classical.byContradiction fun hn => ?_, fun y hy => Classical.byContradiction fun hn => ?_⟩
  ·have := (I.es x).2 ⟨hx, hn⟩; rw [h1] at this; cases this
  ·have := (I.p r hr n).2 ⟨q, hn⟩; rw [h2] at this; exact z_mem r hr n this
  ·have := (I.rs y).2 ⟨hy, hn⟩; rw [h3] at this; cases this
 ·rintro ⟨h1, h2, h3⟩
  refine ⟨List.eq_nil_iff_forall_not_mem.2 fun x hx => ((I.es x).1 hx).2 (h1 x ((I.es x).1 hx).1), ?_, List.eq_nil_iff_forall_not_mem.2 fun y hy => ((I.rs y).1 hy).2 (h3 y ((I.rs y).1 hy).1)⟩
  exact (canon_iff.2 I.form.2.1 : CanonOf (runsAt h.p.P) h.p.P).unique (canon_iff.2 z_form : CanonOf (runsAt pv0.P) pv0.P) fun r hr n => ⟨fun hm => absurd (h2 r hr n ((I.p r hr n).1 hm).1) ((I.p r hr n).1 hm).2, fun hm => absurd hm (z_mem r hr n)⟩
end Go.Proofs.YtalpnhfoaohhhaaGreat
