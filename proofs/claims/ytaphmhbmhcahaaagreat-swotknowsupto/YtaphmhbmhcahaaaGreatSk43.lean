/- TVf SXt SYb SYd -/
import Derived.Test.YtaphmhbmhcahaaaGreatTk
import Derived.Test.YtaphmhbmhcahaaaGreatSk28
import Derived.Test.YtaphmhbmhcahaaaGreatSk42
import Derived.Test.YtaphmhbmhcahaaaGreatSk41
set_option maxRecDepth 100000
set_option maxHeartbeats 12800000
namespace Go.Proofs.YtaphmhbmhcahaaaGreat
section
open Go.ChangeShapes Go.WideShapes Go.ChangeAt Go.RowKit Go.Joins

def RSmT (L : List Rc) : Prop := L.length <= 209715 /\ ∀ r ∈ L, r.p.P.cloud.length <= 1048576
structure FcU (w : World) (f : Fc) : Prop where
 ok : FcOk w f
 row : FcR f
 sm : RSmT f.rs
 an : f.an <= 1048576
theorem FcU.rn {w : World} {f : Fc} (h : FcU w f) : f.rn <= 209715 := by rw [<- h.ok.rs.len]; exact h.sm.1
theorem cellsRe : Tryz.prog.cellsOf 80 = 3 := by kernel_rfl
theorem cellsSk : Tryz.prog.cellsOf 9 = 1 := by kernel_rfl
theorem cellsEs : Tryz.prog.cellsOf 22 = 1 := by kernel_rfl
theorem cellsRs : Tryz.prog.cellsOf 27 = 1 := by kernel_rfl
theorem bulk_at {H : Type} : ∀ (l : List (DataW H)) (d : DataW H), d ∈ l -> Rows.uptoBulk d <= Rows.uptoBulkAll l
 | e :: l, d, h => by
  simp only [Rows.uptoBulkAll]; rcases List.mem_cons.1 h with rfl | h
  ·omega
  ·have := bulk_at l d h; omega
theorem bulk_five {H : Type} : ∀ (l : List (DataW H)), (∀ d ∈ l, 5 <= Rows.uptoBulk d) -> 5 * l.length <= Rows.uptoBulkAll l
 | [], _ => by simp
 | d :: l, h => by
  have h1 := bulk_five l (fun e he => h e (List.mem_cons_of_mem _ he)); have h2 := h d List.mem_cons_self; simp only [Rows.uptoBulkAll, List.length_cons]; omega
theorem viewEu {H : Type} {enc : TypeId × Value -> H} {W : World} {fuel : Nat} {v : Value} {x : DataW H × List MemPlace}
  (h : DataW.trod enc Tryz.prog W 0 (fun _ => true) true fuel 22 [v] = some x) (hw : Rows.uptoBulk x.1 <= 1048576) : ∃ (ao : Option Addr) (n cap : Nat) (L : List K.En), v = .slice ao n cap /\ K.ESrc W ao n cap L /\ n <= 1048576 := by
 rcases DataW.trod_slice Tryz.underlying22 h with h0 | ⟨a, len, cap, elems, rest, n, _, hcs, hx, hb, hl, hm, hlen, hel, hsp, hns⟩
 ·have e : v = .slice none 0 0 := by simpa using h0.1
  exact ⟨none, 0, 0, [], e, ⟨rfl, fun _ => ⟨rfl, rfl⟩, fun ad h => (by cases h), fun e he => (by cases he), Nat.zero_le _⟩, Nat.zero_le _⟩
 ·subst hx
  have e : v = .slice (some a) len cap := by simpa using hcs
  simp only [Rows.uptoBulk] at hw; have h1 := bulk_len (elems.map (·.1)); simp only [List.length_map] at h1
  have key : ∀ i, i < len -> ∃ e : K.En, K.EnAt W (a.add (i * 4)) e /\ e.sku.size <= maxLen := by
   intro i hi; have he := hel i hi; obtain ⟨y, hy⟩ : ∃ y, elems[i]? = some y := ⟨_, List.getElem?_eq_getElem (by omega)⟩; rw [hy, K.cells28, Option.bind_eq_some_iff] at he; obtain ⟨cs', hcs, hy'⟩ := he; obtain ⟨_, -, hce⟩ := World.cells?_some hcs; obtain ⟨e, rfl, hs⟩ := K.open_entry hy'; have g0 := hce 0 (by omega); rw [add_zero] at g0; exact ⟨e, ⟨g0, hce 1 (by omega), hce 2 (by omega), hce 3 (by omega)⟩, hs⟩
  refine ⟨some a, len, cap, (List.range len).map fun i => if h : i < len then Classical.choose (key i h) else K.en0, e, ⟨by simp, fun h => (by cases h), fun ad h t ht => ?_, fun e he => ?_, by omega⟩, by omega⟩
  ·obtain rfl := Option.some.inj h
   have : ((List.range len).map fun i => if h : i < len then Classical.choose (key i h) else K.en0).getD t K.en0 = Classical.choose (key t ht) := by simp [List.getD, ht]
   rw [this]; exact (Classical.choose_spec (key t ht)).1
  ·simp only [List.mem_map, List.mem_range] at he; obtain ⟨i, hi, rfl⟩ := he; rw [dif_pos hi]; exact (Classical.choose_spec (key i hi)).2
theorem past_bulk {H : Type} {enc : TypeId × Value -> H} {W : World} {fuel : Nat} {cs : List Value} {x : DataW H × List MemPlace}
  (h : DataW.trod enc Tryz.prog W 0 (fun _ => true) true fuel 26 cs = some x) : 3 <= Rows.uptoBulk x.1 := by
 obtain ⟨xs, m, _, hx, hcl, hxl, hf⟩ := DataW.trod_struct Tryz.underlying26 h; obtain ⟨y0, y1, rfl⟩ := list2 hxl; subst hx; have h0 := bulk_pos y0.1; have h1 := bulk_pos y1.1; simp only [Rows.uptoBulk, List.map_cons, List.map_nil, Rows.uptoBulkAll]; omega
theorem open_recordU {H : Type} {enc : TypeId × Value -> H} {W : World} {fuel : Nat} {cs : List Value} {x : DataW H × List MemPlace}
  (h : DataW.trod enc Tryz.prog W 0 (fun _ => true) true fuel 80 cs = some x) : 5 <= Rows.uptoBulk x.1 /\ (Rows.uptoBulk x.1 <= 1048576 -> ∃ r : Rc, cs = (ReC (mkR r)).toList /\ RcOk W r /\ r.p.P.cloud.length <= 1048576) := by
 obtain ⟨xs, m, _, hx, hcl, hxl, hf⟩ := DataW.trod_struct Tryz.underlying80 h; obtain ⟨v0, v1, v2, rfl⟩ := list3 (hcl.trans cellsRe); obtain ⟨y0, y1, rfl⟩ := list2 hxl; have t0 := hf 0 _ rfl; have t1 := hf 1 _ rfl; simp [cellsP, cellsSk] at t0 t1; subst hx; simp only [Rows.uptoBulk, List.map_cons, List.map_nil, Rows.uptoBulkAll]; have b0 := bulk_pos y0.1; have b1 := past_bulk t1; refine ⟨by omega, fun hw => ?_⟩; obtain ⟨s, e0, -, hs⟩ := DataW.trod_string Tryz.underlying9 t0; obtain ⟨p, ep, Sp, hl⟩ := viewP t1 (by omega); simp only [List.cons.injEq, and_true] at e0 ep; obtain ⟨rfl, rfl⟩ := ep; subst e0; exact ⟨⟨s, p⟩, rfl, ⟨Sp, hs⟩, hl⟩
theorem viewRT {H : Type} {enc : TypeId × Value -> H} {W : World} {fuel : Nat} {v : Value} {x : DataW H × List MemPlace}
  (h : DataW.trod enc Tryz.prog W 0 (fun _ => true) true fuel 27 [v] = some x) (hw : Rows.uptoBulk x.1 <= 1048576) : ∃ (ao : Option Addr) (n cap : Nat) (L : List Rc), v = .slice ao n cap /\ RcT W ao n cap L /\ RSmT L := by
 rcases DataW.trod_slice Tryz.underlying27 h with h0 | ⟨a, len, cap, elems, rest, n, _, hcs, hx, hb, hl, hm, hlen, hel, hsp, hns⟩
 ·have e : v = .slice none 0 0 := by simpa using h0.1
  exact ⟨none, 0, 0, [], e, ⟨RcS.empty _, Nat.le_refl _, fun _ => rfl⟩, Nat.zero_le _, fun r hr => by cases hr⟩
 ·subst hx
  have e : v = .slice (some a) len cap := by simpa using hcs
  simp only [Rows.uptoBulk] at hw
  have op : ∀ i (hi : i < elems.length), i < len /\ ∃ cs', (5 <= Rows.uptoBulk elems[i].1 /\ (Rows.uptoBulk elems[i].1 <= 1048576 -> ∃ r : Rc, cs' = (ReC (mkR r)).toList /\ RcOk W r /\ r.p.P.cloud.length <= 1048576)) /\ (∀ j, j < 3 -> W.cell? ((a.add (i * 3)).add j) = cs'[j]?) := by
   intro i hi
   have hi' : i < len := by omega
   have he := hel i hi'; rw [List.getElem?_eq_getElem hi, cellsRe, Option.bind_eq_some_iff] at he; obtain ⟨cs', hcs, hy'⟩ := he; obtain ⟨_, -, hce⟩ := World.cells?_some hcs; exact ⟨hi', cs', open_recordU hy', fun j hj => hce j hj⟩
  have h5 := bulk_five (elems.map (·.1)) (fun d hd => by
   obtain ⟨y, hy, rfl⟩ := List.mem_map.1 hd; obtain ⟨i, hi, rfl⟩ := List.getElem_of_mem hy; obtain ⟨-, _, h, -⟩ := op i hi
   exact h.1)
  simp only [List.length_map] at h5
  have key : ∀ i, i < len -> ∃ r : Rc, ReAt W (a.add (i * 3)) (mkR r) /\ RcOk W r /\ r.p.P.cloud.length <= 1048576 := by
   intro i hi
   have hi' : i < elems.length := by omega
   obtain ⟨-, cs', h, hce⟩ := op i hi'; obtain ⟨r, rfl, hr, hl2⟩ := h.2 (by have := bulk_at (elems.map (·.1)) elems[i].1 (List.mem_map_of_mem (f := (·.1)) (List.getElem_mem hi')); omega); have g0 := hce 0 (by omega); rw [add_zero] at g0; exact ⟨r, ⟨g0, hce 1 (by omega), hce 2 (by omega)⟩, hr, hl2⟩
  refine ⟨some a, len, cap, (List.range len).map fun i => if h : i < len then Classical.choose (key i h) else rc0, e, ⟨⟨by simp, (fun h => by cases h), fun ad h t ht => ?_, fun r hr => ?_, by omega⟩, hl, fun h => by cases h⟩, by simp; omega, fun r hr => ?_⟩
  ·obtain rfl := Option.some.inj h
   have : ((List.range len).map fun i => if h : i < len then Classical.choose (key i h) else rc0).getD t rc0 = Classical.choose (key t ht) := by simp [List.getD, ht]
   rw [this]; exact (Classical.choose_spec (key t ht)).1
  ·simp only [List.mem_map, List.mem_range] at hr; obtain ⟨i, hi, rfl⟩ := hr; rw [dif_pos hi]; exact (Classical.choose_spec (key i hi)).2.1
  ·simp only [List.mem_map, List.mem_range] at hr; obtain ⟨i, hi, rfl⟩ := hr; rw [dif_pos hi]; exact (Classical.choose_spec (key i hi)).2.2
end
section
open Go.ChangeShapes Go.WideShapes Go.ChangeAt Go.RowKit Go.Joins
theorem cellsSw : Tryz.prog.cellsOf 29 = 4 := by kernel_rfl
theorem open_swotU {H : Type} {enc : TypeId × Value -> H} {W : World} {fuel : Nat} {cs : List Value} {x : DataW H × List MemPlace}
  (h : DataW.trod enc Tryz.prog W 0 (fun _ => true) true fuel 29 cs = some x) (hw : Rows.uptoBulk x.1 <= 1048576) : ∃ f : Fc, cs = (FaC (mkF f)).toList /\ FcU W f := by
 obtain ⟨xs, m, _, hx, hcl, hxl, hf⟩ := DataW.trod_struct Tryz.underlying29 h; obtain ⟨v0, v1, v2, v3, rfl⟩ := K.list4 (hcl.trans cellsSw); obtain ⟨y0, y1, y2, rfl⟩ := list3 hxl; have t0 := hf 0 _ rfl; have t1 := hf 1 _ rfl; have t2 := hf 2 _ rfl; simp [cellsP, cellsEs, cellsRs] at t0 t1 t2; subst hx; simp only [Rows.uptoBulk, List.map_cons, List.map_nil, Rows.uptoBulkAll] at hw; obtain ⟨ro, rn, rc, R, rfl, Sr, r1⟩ := viewRT t2 (by omega); obtain ⟨ao, an, ac, A, rfl, Sa, a1⟩ := viewEu t0 (by omega); obtain ⟨p, ep, Sp, -⟩ := viewP t1 (by omega); simp only [List.cons.injEq, and_true] at ep; obtain ⟨rfl, rfl⟩ := ep; exact ⟨⟨ao, an, ac, A, p, ro, rn, rc, R⟩, rfl, ⟨Sa, Sp, Sr.src⟩, ⟨Sr.room, Sr.nil⟩, r1, a1⟩
theorem FcU.b {w : World} {s : Fc} (h : FcU w s) : SwB 1 w s := ⟨h.ok, h.row, by have := h.rn; omega, by have := h.an; omega, h.sm.2⟩
end
section
open Go.RowKit
theorem bif_one {a b : Bool} {P : Prop} (h : BIf a P) (k : BIf b P) : a = b := Bool.eq_iff_iff.2 (h.out.trans k.out.symm)
def eD (d : Rn) : K.En := ⟨d.lo, d.hi, ⟨#[]⟩, 0⟩
theorem dotIn_eD (P : Pst) (d : Rn) : dotIn P d ↔ inB P (eD d) = true := (inB_iff P (eD d)).symm
theorem inB_eD {P : Pst} {e : K.En} {d : Rn} (h : dotOf e = d) : inB P e = inB P (eD d) := by subst h; rfl
def LvD (s : Fc) (d : Rn) : Prop := ∃ e ∈ s.es, dotOf e = d
theorem KnOf.cases {s : Fc} {d : Rn} {x : Int} (hf : FormS s) (h : KnOf s d x) : (¬ inB s.p.P (eD d) = true /\ x = 0) ∨ (inB s.p.P (eD d) = true /\ LvD s d /\ x = 1) ∨ (inB s.p.P (eD d) = true /\ ¬ LvD s d /\ x = 2) := by
 rcases h with ⟨h, rfl⟩ | ⟨⟨-, h⟩, h2, rfl⟩ | ⟨⟨-, h⟩, h2, rfl⟩
 ·exact .inl ⟨fun k => h ⟨hf, (dotIn_eD _ _).2 k⟩, rfl⟩
 ·exact .inr (.inl ⟨(dotIn_eD _ _).1 h, h2, rfl⟩)
 ·exact .inr (.inr ⟨(dotIn_eD _ _).1 h, h2, rfl⟩)
theorem KnOf.zero {d : Rn} {x : Int} (h : KnOf fz0 d x) : x = 0 := by
 have hn : ¬ dotIn fz0.p.P d := fun k => by
  have h1 := (dotIn_eD _ _).1 k; rw [show fz0.p.P = pv0.P from rfl, inB_0] at h1
  cases h1
 rcases h with ⟨-, h⟩ | ⟨⟨-, h⟩, -⟩ | ⟨⟨-, h⟩, -⟩
 ·exact h
 ·exact absurd h hn
 ·exact absurd h hn
theorem same_dot {x y : K.En} (h : dotOf x = dotOf y) : K.sameDot x y = true := by
 obtain ⟨a, b, c, e⟩ := x; obtain ⟨p, q, r, s⟩ := y; injection h with h1 h2; subst h1; subst h2; simp [K.sameDot]
theorem kn_one {a b j : Fc} {d : Rn} (fa : FmA (ab a)) (fb : FmA (ab b)) (hc : NoC (ab a) (ab b)) (h : JnA (ab a) (ab b) (ab j)) (hl : LvD a d) (hn : ¬ inB b.p.P (eD d) = true) : LvD j d ↔ ¬ BarD a b d := by
 obtain ⟨e, he, hd⟩ := hl; constructor
 ·rintro ⟨x, hx, hxd⟩ ⟨y, hy, hyd, r, hr, hcv⟩; obtain ⟨⟨k1, -, -⟩, -, k5⟩ := (h.live hc x).1 hx; have hxa : x ∈ a.es := k1.elim id fun k => absurd (by rw [<- inB_eD hxd]; exact fb.h x k) hn; have : x = y := asc_dotS fa.asc hxa hy (same_dot (hxd.trans hyd.symm)); subst this; have h1 := k5 (rck r) (List.mem_map.2 ⟨r, hr, rfl⟩); rw [show covA (rck r) x = covB r x from rfl, hcv] at h1
  cases h1
 ·intro hb; refine ⟨e, (h.live hc e).2 ⟨⟨.inl he, fun _ => he, fun k => absurd (by rw [<- inB_eD hd]; exact k) hn⟩, fa.f e he, fun q hq => ?_⟩, hd⟩; obtain ⟨r, hr, rfl⟩ := List.mem_map.1 hq; exact Bool.eq_false_iff.2 fun k => hb ⟨e, he, hd, r, hr, k⟩
theorem kn_join {wa wb wj : World} {a b j : Fc} {d : Rn} {x y z : Int} (hA : FcOk wa a) (hB : FcOk wb b) (hJ : FcOk wj j) (fa : FormS a) (fb : FormS b) (hc : NoC (ab a) (ab b)) (h : JnA (ab a) (ab b) (ab j)) (hx : KnOf a d x) (hy : KnOf b d y) (hz : KnOf j d z) :
  (x = 0 /\ y = 0 /\ z = 0) ∨ (x = 1 /\ y = 1 /\ z = 1) ∨ (x = 2 /\ (y = 0 ∨ y = 1 ∨ y = 2) /\ z = 2) ∨ ((x = 0 ∨ x = 1) /\ y = 2 /\ z = 2) ∨ (x = 1 /\ y = 0 /\ ((BarD a b d /\ z = 2) ∨ (¬ BarD a b d /\ z = 1))) ∨ (x = 0 /\ y = 1 /\ ((BarD b a d /\ z = 2) ∨ (¬ BarD b a d /\ z = 1))) := by
 have ga := (fm_iff hA).1 fa; have gb := (fm_iff hB).1 fb; have gj := h.form ga gb; have fj := (fm_iff hJ).2 gj; have hi : inB j.p.P (eD d) = true ↔ inB a.p.P (eD d) = true ∨ inB b.p.P (eD d) = true := h.d (eD d)
 have gone : (inB a.p.P (eD d) = true /\ ¬ LvD a d) ∨ (inB b.p.P (eD d) = true /\ ¬ LvD b d) -> ¬ LvD j d := by
  rintro k ⟨e, he, hd⟩; obtain ⟨⟨-, k2, k3⟩, -⟩ := (h.live hc e).1 he; rcases k with ⟨k, kn⟩ | ⟨k, kn⟩
  ·exact kn ⟨e, k2 (by rw [show (ab a).P = a.p.P from rfl, inB_eD hd]; exact k), hd⟩
  ·exact kn ⟨e, k3 (by rw [show (ab b).P = b.p.P from rfl, inB_eD hd]; exact k), hd⟩
 have both : LvD a d -> LvD b d -> LvD j d := by
  rintro ⟨e, he, hd⟩ ⟨f, hf, hfd⟩; have : e = f := hc.at he hf (same_dot (hd.trans hfd.symm)); subst this; exact ⟨e, (h.live hc e).2 ⟨⟨.inl he, fun _ => he, fun _ => hf⟩, ga.f e he, gb.f e hf⟩, hd⟩
 rcases hx.cases fa with ⟨ia, rfl⟩ | ⟨ia, la, rfl⟩ | ⟨ia, la, rfl⟩ <;> rcases hy.cases fb with ⟨ib, rfl⟩ | ⟨ib, lb, rfl⟩ | ⟨ib, lb, rfl⟩ <;> rcases hz.cases fj with ⟨ij, rfl⟩ | ⟨ij, lj, rfl⟩ | ⟨ij, lj, rfl⟩
 all_goals first
  | exact absurd (hi.2 (.inl ia)) ij
  | exact absurd (hi.2 (.inr ib)) ij
  | exact absurd (hi.1 ij) (fun k => k.elim ia ib)
  | exact absurd lj (gone (.inl ⟨ia, la⟩))
  | exact absurd lj (gone (.inr ⟨ib, lb⟩))
  | exact absurd (both la lb) lj
  | exact .inl ⟨rfl, rfl, rfl⟩
  | exact .inr (.inl ⟨rfl, rfl, rfl⟩)
  | exact .inr (.inr (.inl ⟨rfl, .inl rfl, rfl⟩))
  | exact .inr (.inr (.inl ⟨rfl, .inr (.inl rfl), rfl⟩))
  | exact .inr (.inr (.inl ⟨rfl, .inr (.inr rfl), rfl⟩))
  | exact .inr (.inr (.inr (.inl ⟨.inl rfl, rfl, rfl⟩)))
  | exact .inr (.inr (.inr (.inl ⟨.inr rfl, rfl, rfl⟩)))
  | exact .inr (.inr (.inr (.inr (.inl ⟨rfl, rfl, .inr ⟨(kn_one ga gb hc h la ib).1 lj, rfl⟩⟩))))
  | exact .inr (.inr (.inr (.inr (.inl ⟨rfl, rfl, .inl ⟨Classical.byContradiction fun k => lj ((kn_one ga gb hc h la ib).2 k), rfl⟩⟩))))
  | exact .inr (.inr (.inr (.inr (.inr ⟨rfl, rfl, .inr ⟨(kn_one gb ga hc.comm h.comm lb ia).1 lj, rfl⟩⟩))))
  | exact .inr (.inr (.inr (.inr (.inr ⟨rfl, rfl, .inl ⟨Classical.byContradiction fun k => lj ((kn_one gb ga hc.comm h.comm lb ia).2 k), rfl⟩⟩))))
attribute [local go_sem ↓] ldP_eq stP_eq ldSw_eq stSw_eq ldD_eq stD_eq
attribute [local go_sem] cells_PV PC_size cells_FaV FaC_size zero_FaZ cells_RV RC_size zero_RC
theorem swotKnows_law (a b : Fc) (d : Rn) (w : World) (hA : FcU w a) (hB : FcU w b) : Calls Tryz.prog 6 #[FaV (mkF a), FaV (mkF b), RV d] w fun e w' => e = .returned (.bool true) /\ Below w.heap.size w w' := by
 obtain ⟨wk, hwk, HX, HY, HZ, HBK⟩ := box3R w a b d; obtain ⟨G, hG0⟩ : ∃ G, w.heap.size = G := ⟨_, rfl⟩; rw [hG0] at HX HY HZ; have HA := hide (hA.b.below HBK.out); have HB := hide (hB.b.below HBK.out); clear hA hB; go_enter Tryz.func6, Tryz.ntmps6; go_wp2_with fail; clear hwk hG0; refine (known_any _).mono ?_; rintro e w2 ⟨rfl, b2⟩; have HB2 := hide b2; have l1 := run_ldSw (HX.out.below b2); have l2 := run_ldSw (HY.out.below b2); clear b2; go_wp2_with fail; clear l1 l2; refine (swJoin_any 1 1 (by decide) a b _ (HA.out.below HB2.out) (HB.out.below HB2.out)).mono ?_; rintro e w3 ⟨s, er, rfl, BS, b3, DS⟩; obtain ⟨gj, hgj⟩ : ∃ g, w3.heap.size = g := ⟨_, rfl⟩; obtain ⟨w4, hst, X4, B4, -⟩ := madeSx w3 s gj hgj; have HB4 := hide (HB2.out.trans ((b3.trans (B4.mono b3.size)).mono HB2.out.size)); have HJ := hide X4; have HS := hide (BS.below B4); have HD := hide (sj_cases HA.out.ok HB.out.ok DS); have l1 := run_ldSw (HX.out.below HB4.out)
 clear BS b3 DS X4 B4; go_wp2_with fail; clear hst hgj l1; refine (refInForm_any a _ (HA.out.ok.below HB4.out)).mono ?_; rintro e w5 ⟨v, rfl, hv, b5⟩; have HB5 := wTr HB4 b5; have HJ5 := hide (HJ.out.below b5); have HS5 := hide (HS.out.below b5); clear b5
 cases v with
 | false =>
  have hn : ¬ (FormS a /\ FormS b) := fun h => by have := hv.2 h.1; cases this
  have HNo := hide hn; clear hv hn
  obtain ⟨rfl, rfl⟩ : er = 1 /\ s = fz0 := by
   rcases HD.out with ⟨-, h1, h2⟩ | ⟨h, -⟩ | ⟨h, -⟩
   ·exact ⟨h1, h2⟩
   ·exact absurd h HNo.out
   ·exact absurd h HNo.out
  have lj := run_ldSw HJ5.out
  have ld := run_ldD (HZ.out.below HB5.out).at
  go_wp2_with fail; clear lj ld; refine (swKnows_any fz0 d _ (HS5.out.u (by decide))).mono ?_; rintro e w9 ⟨x, rfl, hx, b9⟩; obtain rfl := hx.zero; have HE := hide (HBK.out.trans ((HB5.out.trans (b9.mono HB5.out.size)).mono HBK.out.size)); clear b9 hx; go_wp2_with fail; go_ret; exact ⟨rfl, HE.out⟩
 | true =>
 have HFa := hide (hv.1 rfl); have l1 := run_ldSw (HY.out.below HB5.out); clear hv; go_wp2_with fail; clear l1; refine (refInForm_any b _ (HB.out.ok.below HB5.out)).mono ?_; rintro e w6 ⟨v, rfl, hv, b6⟩; have HB6 := wTr HB5 b6; have HJ6 := hide (HJ5.out.below b6); have HS6 := hide (HS5.out.below b6); clear b6
 cases v with
 | false =>
  have hn : ¬ (FormS a /\ FormS b) := fun h => by have := hv.2 h.2; cases this
  have HNo := hide hn; clear hv hn
  obtain ⟨rfl, rfl⟩ : er = 1 /\ s = fz0 := by
   rcases HD.out with ⟨-, h1, h2⟩ | ⟨h, -⟩ | ⟨h, -⟩
   ·exact ⟨h1, h2⟩
   ·exact absurd h HNo.out
   ·exact absurd h HNo.out
  have lj := run_ldSw HJ6.out
  have ld := run_ldD (HZ.out.below HB6.out).at
  go_wp2_with fail; clear lj ld; refine (swKnows_any fz0 d _ (HS6.out.u (by decide))).mono ?_; rintro e w9 ⟨x, rfl, hx, b9⟩; obtain rfl := hx.zero; have HE := hide (HBK.out.trans ((HB6.out.trans (b9.mono HB6.out.size)).mono HBK.out.size)); clear b9 hx; go_wp2_with fail; go_ret; exact ⟨rfl, HE.out⟩
 | true =>
 have HFb := hide (hv.1 rfl); clear hv; rcases HD.out with ⟨h, -⟩ | ⟨-, -, rfl, -⟩ | ⟨-, hc, rfl, hj⟩
 ·exact absurd ⟨HFa.out, HFb.out⟩ h
 ·have HE := wTr HBK HB6.out; go_wp2_with fail; go_ret; exact ⟨rfl, HE.out⟩
 have HC : Hid (NoC (ab a) (ab b)) := hc; have HJn := hide hj; have HA6 := hide (HA.out.below HB6.out); have HB6' := hide (HB.out.below HB6.out)
 have HSt : Hid (∀ W, Below w6.heap.size w6 W -> (ldSw (.pointer (some ⟨G, 0, none⟩))).run Tryz.prog W = .ok (.agg (FaC (mkF a))) W /\ (ldSw (.pointer (some ⟨G + 1, 0, none⟩))).run Tryz.prog W = .ok (.agg (FaC (mkF b))) W /\ (ldD (.pointer (some ⟨G + 2, 0, none⟩))).run Tryz.prog W = .ok (RV d) W /\ (ldSw (.pointer (some ⟨gj, 0, none⟩))).run Tryz.prog W = .ok (.agg (FaC (mkF s))) W) := fun W hW =>
  ⟨run_ldSw ((HX.out.below HB6.out).below hW), run_ldSw ((HY.out.below HB6.out).below hW), run_ldD ((HZ.out.below HB6.out).below hW).at, run_ldSw (HJ6.out.below hW)⟩
 clear hc hj; go_upto_region 8 with fail; refine wp_region_held_drew (S := fun W => (ldSw (.pointer (some ⟨G, 0, none⟩))).run Tryz.prog W = .ok (.agg (FaC (mkF a))) W /\ (ldSw (.pointer (some ⟨G + 1, 0, none⟩))).run Tryz.prog W = .ok (.agg (FaC (mkF b))) W /\ (ldD (.pointer (some ⟨G + 2, 0, none⟩))).run Tryz.prog W = .ok (RV d) W /\ (ldSw (.pointer (some ⟨gj, 0, none⟩))).run Tryz.prog W = .ok (.agg (FaC (mkF s))) W) (by kernel_rfl) (HSt.out _ (below_drew1 w6)) (fun hHeld => ?_); refine wU 0 ?_; refine wU 1 ?_; refine wU 3 ?_; refine wU 4 ?_; refine wU 6 ?_; refine wU 7 ?_; refine wpAnyH_ready (rs := [2]) (by kernel_rfl) (by simp) (.cons rfl (fun K hK => ?_) .nil); go_simp; go_wp2_with fail; refine (swKnows_any a d _ ((HA6.out.below (below_drew1 w6)).u (by decide))).mono ?_; rintro e w7 ⟨x, rfl, hx, b0⟩; have b1 : Below w6.heap.size w6 w7 := (below_drew1 w6).trans b0; have HB7 := hide b1; have Hx := hide hx
 have HS0 := hide (HSt.out _ b1); refine hK.out _ _ HS0.out (fun hHeld => ?_); clear hK K b0 b1 HS0 hx; refine wpAnyH_ready (rs := [5]) (by kernel_rfl) (by simp) (.cons rfl (fun K hK => ?_) .nil); go_simp; go_wp2_with fail; refine (swKnows_any b d _ ((HB6'.out.below HB7.out).u (by decide))).mono ?_; rintro e w8 ⟨y, rfl, hy, b0⟩; have b1 : Below w6.heap.size w6 w8 := HB7.out.trans (b0.mono HB7.out.size); have HB8 := hide b1; have Hy := hide hy; have HS0 := hide (HSt.out _ b1); refine hK.out _ _ HS0.out (fun hHeld => ?_); clear hK K b0 b1 HS0 hy; refine wpAnyH_ready (rs := [8]) (by kernel_rfl) (by simp) (.cons rfl (fun K hK => ?_) .nil); go_simp; go_wp2_with fail; refine (swKnows_any s d _ ((HS6.out.below HB8.out).u (by decide))).mono ?_; rintro e w9 ⟨z, rfl, hz, b0⟩; have b1 : Below w6.heap.size w6 w9 := HB8.out.trans (b0.mono HB8.out.size); have HB9 := hide b1; have Hz := hide hz; have HS0 := hide (HSt.out _ b1)
 refine hK.out _ _ HS0.out (fun hHeld => ?_); clear hK K b0 b1 HS0 hz; refine wU 9 ?_; refine wU 10 ?_; refine wU 11 ?_; refine wpAnyH_done (by kernel_rfl) ?_ _; clear hHeld; have HW := wTr HB6 HB9.out; have HE := wTr HBK HW.out; have HKn := hide (kn_join HA6.out.ok HB6'.out.ok HS6.out.ok HFa.out HFb.out HC.out HJn.out Hx.out Hy.out Hz.out); clear HSt Hx Hy Hz HJn HC HD; have key := HKn.out; clear HKn; rcases key with ⟨rfl, rfl, rfl⟩ | ⟨rfl, rfl, rfl⟩ | ⟨rfl, rfl | rfl | rfl, rfl⟩ | ⟨rfl | rfl, rfl, rfl⟩ | ⟨rfl, rfl, hk⟩ | ⟨rfl, rfl, hk⟩
 ·go_wp2_with fail; go_ret; exact ⟨rfl, HE.out⟩
 ·go_wp2_with fail; go_ret; exact ⟨rfl, HE.out⟩
 ·go_wp2_with fail; go_ret; exact ⟨rfl, HE.out⟩
 ·go_wp2_with fail; go_ret; exact ⟨rfl, HE.out⟩
 ·go_wp2_with fail; go_ret; exact ⟨rfl, HE.out⟩
 ·go_wp2_with fail; go_ret; exact ⟨rfl, HE.out⟩
 ·go_wp2_with fail; go_ret; exact ⟨rfl, HE.out⟩
 ·have lp := run_ldSw (HX.out.below HW.out); have lq := run_ldSw (HY.out.below HW.out)
  have ld := run_ldD (HZ.out.below HW.out).at
  have HK := hide hk; clear hk; go_wp2_with fail; clear lp lq ld; refine (barred_any a b d _ ((HA.out.below HW.out).ok) ((HB.out.below HW.out).ok)).mono ?_; rintro e wa ⟨v, rfl, hv, ba⟩; have HVa := wTr HW ba; have HVv := hide hv; have lp := run_ldSw (HX.out.below HVa.out); have lq := run_ldSw (HY.out.below HVa.out)
  have ld := run_ldD (HZ.out.below HVa.out).at
  clear ba hv; have hk := HK.out; rcases hk with ⟨hb, rfl⟩ | ⟨hb, rfl⟩
  ·obtain rfl : v = true := HVv.out.2 hb; have HBb := hide hb; clear hb; go_wp2_with fail; clear lp lq ld; refine (barred_any a b d _ ((HA.out.below HVa.out).ok) ((HB.out.below HVa.out).ok)).mono ?_; rintro e wb ⟨u, rfl, hu, bb⟩; obtain rfl : u = true := bif_one hu HVv.out; have HE := hide (HBK.out.trans ((HVa.out.trans (bb.mono HVa.out.size)).mono HBK.out.size)); clear bb hu; go_wp2_with fail; go_ret; exact ⟨rfl, HE.out⟩
  ·obtain rfl : v = false := Bool.eq_false_iff.2 fun k => hb (HVv.out.1 k); have HBb := hide hb; clear hb; go_wp2_with fail; clear lp lq ld; refine (barred_any a b d _ ((HA.out.below HVa.out).ok) ((HB.out.below HVa.out).ok)).mono ?_; rintro e wb ⟨u, rfl, hu, bb⟩; obtain rfl : u = false := bif_one hu HVv.out; have HE := hide (HBK.out.trans ((HVa.out.trans (bb.mono HVa.out.size)).mono HBK.out.size)); clear bb hu; go_wp2_with fail; go_ret; exact ⟨rfl, HE.out⟩
 ·have lp := run_ldSw (HY.out.below HW.out); have lq := run_ldSw (HX.out.below HW.out)
  have ld := run_ldD (HZ.out.below HW.out).at
  have HK := hide hk; clear hk; go_wp2_with fail; clear lp lq ld; refine (barred_any b a d _ ((HB.out.below HW.out).ok) ((HA.out.below HW.out).ok)).mono ?_; rintro e wa ⟨v, rfl, hv, ba⟩; have HVa := wTr HW ba; have HVv := hide hv; have lp := run_ldSw (HY.out.below HVa.out); have lq := run_ldSw (HX.out.below HVa.out)
  have ld := run_ldD (HZ.out.below HVa.out).at
  clear ba hv; have hk := HK.out; rcases hk with ⟨hb, rfl⟩ | ⟨hb, rfl⟩
  ·obtain rfl : v = true := HVv.out.2 hb; have HBb := hide hb; clear hb; go_wp2_with fail; clear lp lq ld; refine (barred_any b a d _ ((HB.out.below HVa.out).ok) ((HA.out.below HVa.out).ok)).mono ?_; rintro e wb ⟨u, rfl, hu, bb⟩; obtain rfl : u = true := bif_one hu HVv.out; have HE := hide (HBK.out.trans ((HVa.out.trans (bb.mono HVa.out.size)).mono HBK.out.size)); clear bb hu; go_wp2_with fail; go_ret; exact ⟨rfl, HE.out⟩
  ·obtain rfl : v = false := Bool.eq_false_iff.2 fun k => hb (HVv.out.1 k); have HBb := hide hb; clear hb; go_wp2_with fail; clear lp lq ld; refine (barred_any b a d _ ((HB.out.below HVa.out).ok) ((HA.out.below HVa.out).ok)).mono ?_; rintro e wb ⟨u, rfl, hu, bb⟩; obtain rfl : u = false := bif_one hu HVv.out; have HE := hide (HBK.out.trans ((HVa.out.trans (bb.mono HVa.out.size)).mono HBK.out.size)); clear bb hu; go_wp2_with fail; go_ret; exact ⟨rfl, HE.out⟩
theorem swotKnows_u (a b : Fc) (d : Rn) (w : World) (hA : FcU w a) (hB : FcU w b) (_h : True) :
  Calls Tryz.prog 6 #[FaV (mkF a), FaV (mkF b), RV d] w fun e w' => e = .returned (.bool true) /\ Below w.heap.size w w' := swotKnows_law a b d w hA hB
end
section
open Go.ChangeShapes Go.WideShapes Go.ChangeAt Go.RowKit Go.Joins
theorem cellsDtT : Tryz.prog.cellsOf 43 = 2 := by kernel_rfl
theorem cellsIT : Tryz.prog.cellsOf 3 = 1 := by kernel_rfl
theorem list2T {α : Type} {l : List α} (h : l.length = 2) : ∃ a b, l = [a, b] := by
 match l, h with
 | [a, b], _ => exact ⟨a, b, rfl⟩
theorem open_dotU {H : Type} {enc : TypeId × Value -> H} {w : World} {base : Nat} {spare : Nat -> Bool} {held : Bool} {fuel : Nat} {cs : List Value} {x : DataW H × List MemPlace}
  (h : DataW.trod enc Tryz.prog w base spare held fuel 43 cs = some x) (_hw : Rows.uptoBulk x.1 <= 1048576) : ∃ e : Rn, cs = (RC e).toList /\ True := by
 obtain ⟨xs, m, _, hx, hcl, hxl, hf⟩ := DataW.trod_struct Tryz.underlying43 h; obtain ⟨v0, v1, rfl⟩ := list2T (hcl.trans cellsDtT); obtain ⟨y0, y1, rfl⟩ := list2T hxl; have t0 := hf 0 _ rfl; have t1 := hf 1 _ rfl; simp [cellsIT] at t0 t1; obtain ⟨r, e0, -, _⟩ := DataW.trod_int Tryz.underlying3 t0; obtain ⟨n, e1, -, _⟩ := DataW.trod_int Tryz.underlying3 t1; simp only [List.cons.injEq, and_true] at e0 e1; subst e0 e1; exact ⟨⟨r, n⟩, rfl, trivial⟩
end
end Go.Proofs.YtaphmhbmhcahaaaGreat
