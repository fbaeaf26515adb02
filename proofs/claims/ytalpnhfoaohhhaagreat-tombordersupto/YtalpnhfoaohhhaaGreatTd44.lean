/- TRl TRw TEz -/
import Derived.Test.YtalpnhfoaohhhaaGreatTk
import Derived.Test.YtalpnhfoaohhhaaGreatTd36
import Derived.Test.YtalpnhfoaohhhaaGreatTd40
import Derived.Test.YtalpnhfoaohhhaaGreatTd41
import Derived.Test.YtalpnhfoaohhhaaGreatTd43
import Derived.Test.YtalpnhfoaohhhaaGreatTd23
import Derived.Test.YtalpnhfoaohhhaaGreatTd34
set_option maxRecDepth 100000
set_option maxHeartbeats 6400000
namespace Go.Proofs.YtalpnhfoaohhhaaGreat
section
open Go.RowKit Go.Maps
theorem ownE_set {B0 B : Nat} {w W : World} {a : Option Addr} {c : Nat} {acc : List K.En} (O : K.OwnE B0 B w W a c acc) {g : Nat} {cs : Array Value} (h1 : B0 <= g) (h2 : g < B) : K.OwnE B0 B w (W.setRow g cs) a c acc := by
 refine ⟨⟨O.own.1, ?_⟩, below_setRow O.below h1, by simp [World.setRow]; exact O.hB, O.hB0⟩
 rcases O.own.2 with h | ⟨g', cap2, cur, hv, hbg, hgg, r⟩
 ·exact Or.inl h
 ·exact Or.inr ⟨g', cap2, cur, hv, hbg, (setRow_other _ _ _ _ (by omega)).trans hgg, r⟩
theorem pfar_box {W : World} {g : Nat} {m : FacV} {p : Pv} (A : FaBox W g m) (h : PSrc W p) : PFar p g := by
 refine ⟨fun hn ad e => ?_, fun hn ad e => ?_⟩
 ·have := A.ne (h.vec.2.2 ad e 0 hn) (fun _ _ _ h => by cases h)
  rw [block_add] at this; exact this
 ·have := A.ne (h.cloud.cell ad e 0 hn).c0 (fun _ _ _ h => by cases h)
  rw [block_add] at this; exact this
structure LaI (wk w1 : World) (g : Nat) (f : Fc) (M : List K.En) (q : Pv) (k : Nat) (a : Option Addr) (c : Nat) (acc : List K.En) (wr : World) : Prop where
 box : FaBox wr g (mkF ⟨a, acc.length, c, acc, q, none, 0, 0, []⟩)
 own : K.OwnE wk.heap.size w1.heap.size wk wr a c acc
 eq : acc = (f.es.take k).filter (notIn M)
 fr : ∀ x, x < w1.heap.size -> x ≠ g -> wr.heap[x]? = w1.heap[x]?
theorem LaI.len {wk w1 wr : World} {g : Nat} {f : Fc} {M : List K.En} {q : Pv} {k : Nat} {a : Option Addr} {c : Nat} {acc : List K.En} (I : LaI wk w1 g f M q k a c acc wr) : acc.length <= k := by
 rw [I.eq]; exact Nat.le_trans (List.length_filter_le _ _) (by rw [List.length_take]; omega)
theorem LaI.later {wk w1 wr W : World} {g : Nat} {f : Fc} {M : List K.En} {q : Pv} {k : Nat} {a : Option Addr} {c : Nat} {acc : List K.En} (I : LaI wk w1 g f M q k a c acc wr) (hb : Below wr.heap.size wr W) : LaI wk w1 g f M q k a c acc W :=
 ⟨I.box.below hb, I.own.later hb, I.eq, fun x h1 h2 => (hb.block x (Nat.lt_of_lt_of_le h1 I.own.hB)).trans (I.fr x h1 h2)⟩
theorem LaI.skip {wk w1 wr : World} {g : Nat} {f : Fc} {M : List K.En} {q : Pv} {k : Nat} {a : Option Addr} {c : Nat} {acc : List K.En} {e : K.En} (I : LaI wk w1 g f M q k a c acc wr) (hk : k < f.es.length) (he : f.es.getD k K.en0 = e) (hm : e ∈ M) : LaI wk w1 g f M q (k + 1) a c acc wr := by
 refine ⟨I.box, I.own, ?_, I.fr⟩
 have hn : notIn M e = false := by
  cases h : notIn M e with
  | false => rfl
  | true => exact absurd hm (notIn_iff.1 h)
 rw [takeE_snoc _ _ hk, he, List.filter_append, <- I.eq, List.filter_cons_of_neg (by simp [hn]), List.filter_nil, List.append_nil]
theorem LaI.app {wk w1 wr : World} {g : Nat} {f : Fc} {M : List K.En} {q : Pv} {k : Nat} {a : Option Addr} {c : Nat} {acc : List K.En} (I : LaI wk w1 g f M q k a c acc wr) (e : K.En) (hs : e.sku.size <= maxLen) (hl : acc.length < 3518437208883) :
  ∃ a' c' W', (Builtin.append_ #[22, 22] 22 #[.slice a acc.length c, .slice (some ⟨wr.heap.size, 0, none⟩) 1 1]).run Tryz.prog (wr.alloc (.cells (K.EC e) 36)) = .ok (.slice a' (acc.length + 1) c') W' /\ K.OwnE wk.heap.size w1.heap.size wk W' a' c' (acc ++ [e]) /\ (∀ q, q < wr.heap.size -> (Value.slice a acc.length c).ownBlock ≠ some q -> W'.heap[q]? = wr.heap[q]?) := by
 have b1 := below_new wr (.cells (K.EC e) 36)
 have hL := K.lit_esrc wr [e] (K.EC e) (by simp) 36 1 rfl (fun x hx => by rw [List.mem_singleton.1 hx]; exact hs) (by decide)
 obtain ⟨a', c', W', hr, O', hk, -, -⟩ := (I.own.later b1).appRun _ 1 1 _ hL acc.length (acc.length + 1) rfl rfl (by omega)
 exact ⟨a', c', W', hr, O', fun q hq hn => (hk q (by simp; omega) hn).trans (Below.heap_alloc wr _ q hq)⟩
theorem LaI.next {wk w1 wr W2 : World} {g : Nat} {f : Fc} {M : List K.En} {q : Pv} {k : Nat} {a a2 : Option Addr} {c c2 : Nat} {acc : List K.En} {e : K.En} (I : LaI wk w1 g f M q k a c acc wr) (hg : wk.heap.size <= g) (hg1 : g < w1.heap.size) (O2 : K.OwnE wk.heap.size w1.heap.size wk W2 a2 c2 (acc ++ [e]))
  (hk : ∀ q, q < wr.heap.size -> (Value.slice a acc.length c).ownBlock ≠ some q -> W2.heap[q]? = wr.heap[q]?) (hkl : k < f.es.length) (he : f.es.getD k K.en0 = e) (hm : e ∉ M) :
  FaBox W2 g (mkF ⟨a, acc.length, c, acc, q, none, 0, 0, []⟩) /\ LaI wk w1 g f M q (k + 1) a2 c2 (acc ++ [e]) (W2.setCell ⟨g, 0, none⟩ (.slice a2 (acc.length + 1) c2)) := by
 have X2 : FaBox W2 g (mkF ⟨a, acc.length, c, acc, q, none, 0, 0, []⟩) := (hk g I.box.lt (fun e => by have := (I.own.own.lt _ e).1; omega)).trans I.box
 have hl : (acc ++ [e]).length = acc.length + 1 := by simp
 have e1 : W2.setCell ⟨g, 0, none⟩ (.slice a2 (acc.length + 1) c2) = W2.setRow g (FaC (mkF ⟨a2, (acc ++ [e]).length, c2, acc ++ [e], q, none, 0, 0, []⟩)) := by rw [hl]; exact setCell_row X2
 rw [e1]
 refine ⟨X2, X2.setRow, ownE_set O2 hg hg1, ?_, fun y h1 h3 => ?_⟩
 ·rw [takeE_snoc _ _ hkl, he, List.filter_append, <- I.eq, List.filter_cons_of_pos (notIn_iff.2 hm), List.filter_nil]
 ·exact (setRow_other _ _ _ _ h3).trans ((hk y (Nat.lt_of_lt_of_le h1 I.own.hB) (fun e => by have := (I.own.own.lt _ e).1; omega)).trans (I.fr y h1 h3))
structure LbI (wk w2 : World) (g : Nat) (f : Fc) (R : List Rc) (a : Option Addr) (n c : Nat) (E : List K.En) (q : Pv) (k : Nat) (h : Hs) (D : List Rc) (wr : World) : Prop where
 box : FaBox wr g (mkF ⟨a, n, c, E, q, h.o, h.n, h.c, D⟩)
 own : OwnRc w2.heap.size wk wr h D
 li : LrI f.rs R k D
 num : h.n <= k
 fr : ∀ x, x < w2.heap.size -> x ≠ g -> wr.heap[x]? = w2.heap[x]?
theorem LbI.later {wk w2 wr W : World} {g : Nat} {f : Fc} {R : List Rc} {a : Option Addr} {n c : Nat} {E : List K.En} {q : Pv} {k : Nat} {h : Hs} {D : List Rc} (I : LbI wk w2 g f R a n c E q k h D wr) (hb : Below wr.heap.size wr W) : LbI wk w2 g f R a n c E q k h D W :=
 ⟨I.box.below hb, I.own.later hb, I.li, I.num, fun x h1 h2 => (hb.block x (Nat.lt_of_lt_of_le h1 I.own.hB.2)).trans (I.fr x h1 h2)⟩
theorem LbI.skip {wk w2 wr : World} {g : Nat} {f : Fc} {R : List Rc} {a : Option Addr} {n c : Nat} {E : List K.En} {q : Pv} {k : Nat} {h : Hs} {D : List Rc} {r : Rc} (I : LbI wk w2 g f R a n c E q k h D wr) (hk : k < f.rs.length) (he : f.rs.getD k rc0 = r) (hm : rck r ∈ plR R) : LbI wk w2 g f R a n c E q (k + 1) h D wr :=
 ⟨I.box, I.own, I.li.skip hk (by rw [he]; exact hm), by have := I.num; omega, I.fr⟩
theorem LbI.next {wk w2 wr W2 : World} {g : Nat} {f : Fc} {R : List Rc} {a : Option Addr} {n c : Nat} {E : List K.En} {q : Pv} {k : Nat} {h h2 : Hs} {D : List Rc} {r : Rc} (I : LbI wk w2 g f R a n c E q k h D wr) (hg : wk.heap.size <= g) (hg1 : g < w2.heap.size) (O2 : OwnRc w2.heap.size wk W2 h2 (D ++ [r])) (hk : ∀ q, q < wr.heap.size -> (HsV h).ownBlock ≠ some q -> W2.heap[q]? = wr.heap[q]?)
  (hkl : k < f.rs.length) (he : f.rs.getD k rc0 = r) (hm : rck r ∉ plR R) (ho : RecOk r) (hn : h2.n = h.n + 1) :
  FaBox W2 g (mkF ⟨a, n, c, E, q, h.o, h.n, h.c, D⟩) /\ LbI wk w2 g f R a n c E q (k + 1) h2 (D ++ [r]) (W2.setCell ⟨g, 3, none⟩ (.slice h2.o h2.n h2.c)) := by
 have X2 : FaBox W2 g (mkF ⟨a, n, c, E, q, h.o, h.n, h.c, D⟩) := (hk g I.box.lt (fun e => by have := (I.own.own.lt _ e).1; omega)).trans I.box
 have e1 : W2.setCell ⟨g, 3, none⟩ (.slice h2.o h2.n h2.c) = W2.setRow g (FaC (mkF ⟨a, n, c, E, q, h2.o, h2.n, h2.c, D ++ [r]⟩)) := setCell_row X2
 have hnum := I.num
 rw [e1]
 refine ⟨X2, X2.setRow, O2.setOther g _ hg (fun e => by have := (O2.own.lt _ e).1; omega) (fun x hx => pfar_box X2 (O2.ok x hx).1.1), I.li.add hkl (by rw [he]; exact hm) ho (by rw [he]), by omega, fun y h1 h3 => ?_⟩
 exact (setRow_other _ _ _ _ h3).trans ((hk y (Nat.lt_of_lt_of_le h1 I.own.hB.2) (fun e => by have := (I.own.own.lt _ e).1; omega)).trans (I.fr y h1 h3))
theorem run_bldFp (p : Pv) (w : World) : (bldF #[(1, .agg (PC p))]).run Tryz.prog w = .ok (.agg (FaC (mkF ⟨none, 0, 0, [], p, none, 0, 0, []⟩))) w := by kernel_rfl
def bsEc (a : Array (Nat × Value)) : Sem Value := Instr.buildSlice 22 1 a
theorem bsEc_eq (a : Array (Nat × Value)) : Instr.buildSlice 22 1 a = bsEc a := rfl
theorem run_bsEc (e : K.En) (w : World) : (bsEc #[(0, K.EV e)]).run Tryz.prog w = .ok (.slice (some ⟨w.heap.size, 0, none⟩) 1 1) (w.alloc (.cells (K.EC e) 36)) := by kernel_rfl
attribute [local go_sem ↓] ldP_eq stP_eq ldFa_eq stFa_eq bldF_eq run_bldFp K.ld28_eq K.st28_eq ldRe_eq stRe_eq bsRc_eq run_bsRc bsEc_eq run_bsEc
attribute [local go_sem] cells_PV PC_size cells_FaV FaC_size zero_FaZ run_bldF0 K.zero_EC K.cells_EV K.EC_size K.fold_EC cells_ReV ReC_size
theorem refLessF_any (f g : Fc) (w : World) (hF : FcOk w f) (hG : FcOk w g) (hf : FcR f) :
  Calls Tryz.prog 22 #[FaV (mkF f), FaV (mkF g)] w fun e w' => FcE w w' e (LsD f g) := by
 obtain ⟨w2, hw2, HX2, HY2, HB2⟩ := box2F w f g
 have b3 := below_new w2 (.cells (FaC (mkF fz0)) 29)
 have X3 := FaBox_new w2 (mkF fz0)
 have hs2 : w2.heap.size = w.heap.size + 2 := by rw [<- hw2]; simp
 obtain ⟨wk, hwk⟩ : ∃ wk, w2.alloc (.cells (FaC (mkF fz0)) 29) = wk := ⟨_, rfl⟩
 rw [hwk] at b3 X3
 rw [hs2] at X3
 obtain ⟨G, hG0⟩ : ∃ G, w.heap.size = G := ⟨_, rfl⟩
 rw [hG0] at X3 HX2 HY2
 have HX := hide (HX2.out.below b3)
 have HY := hide (HY2.out.below b3)
 have HZ := hide X3
 have HBK := hide (HB2.out.trans (b3.mono HB2.out.size))
 have HF := hide (hF.below HBK.out)
 have HG := hide (hG.below HBK.out)
 have HR := hide hf
 have HGs : Hid (w.heap.size = G) := hG0
 clear hF hG hf b3 X3 HX2 HY2 HB2
 have lf := run_ldFa HX.out
 have lg := run_ldFa HY.out
 go_enter Tryz.func22, Tryz.ntmps22
 go_wp2_with fail
 clear hw2 hwk hs2 hG0
 refine (refCheckF_any f _ HF.out).mono ?_
 rintro e w1 ⟨x, rfl, hx, b1⟩
 have HB1 := hide b1
 clear b1 lf lg
 rcases hx with ⟨rfl, h1⟩ | ⟨rfl, h1⟩
 rotate_left
 ·have HZ1 := HZ.out.below HB1.out
  have st0 := run_stFa (m' := mkF fz0) HZ1
  have HE := hide (give_fe (w := w) (f := fz0) (er := 1) (LsD f g) HZ1 (fz0_ok _) fz0_row (HBK.out.trans (HB1.out.mono HBK.out.size)) (by rw [HGs.out]; omega) (.inl ⟨fun h => h1 h.1, rfl, rfl⟩))
  clear h1 HZ1
  go_wp2_with fail
  clear st0
  refine bodyPost_ret (res2Fb rfl rfl rfl HE.out.1) rfl ?_
  exact HE.out.2
 have HF0 := hide h1
 clear h1
 have lg := run_ldFa (HY.out.below HB1.out)
 go_wp2_with fail
 clear lg
 refine (refCheckF_any g _ (HG.out.below HB1.out)).mono ?_
 rintro e w3 ⟨x, rfl, hx, b3⟩
 have HB3 := hide (HB1.out.trans (b3.mono HB1.out.size))
 clear b3
 rcases hx with ⟨rfl, h1⟩ | ⟨rfl, h1⟩
 rotate_left
 ·have HZ1 := HZ.out.below HB3.out
  have st0 := run_stFa (m' := mkF fz0) HZ1
  have HE := hide (give_fe (w := w) (f := fz0) (er := 1) (LsD f g) HZ1 (fz0_ok _) fz0_row (HBK.out.trans (HB3.out.mono HBK.out.size)) (by rw [HGs.out]; omega) (.inl ⟨fun h => h1 h.2, rfl, rfl⟩))
  clear h1 HZ1
  go_wp2_with fail
  clear st0
  refine bodyPost_ret (res2Fb rfl rfl rfl HE.out.1) rfl ?_
  exact HE.out.2
 have HFo : Hid (FormF f /\ FormF g) := ⟨HF0.out, h1⟩
 clear h1
 have HCg := hide ((chk_okN HG.out.es.1).2 HFo.out.2.1)
 have lp := run_ldP (HX.out.below HB3.out).past
 have lq := run_ldP (HY.out.below HB3.out).past
 go_wp2_with fail
 clear lp lq
 refine (refMinus_any f.p g.p _ (HF.out.below HB3.out).p (HG.out.below HB3.out).p).mono ?_
 rintro e w4 ⟨q, rfl, S4, N4, b4, C4⟩
 have HB4 := hide (HB3.out.trans (b4.mono HB3.out.size))
 obtain ⟨g6, hg6⟩ : ∃ g, w4.heap.size = g := ⟨_, rfl⟩
 obtain ⟨w5, hst, X5, B5, hs5⟩ := madeFa w4 (mkF ⟨none, 0, 0, [], q, none, 0, 0, []⟩) g6 hg6
 replace hst : (stFa (.pointer (some ⟨g6, 0, none⟩)) (.agg (FaC (mkF ⟨none, 0, 0, [], q, none, 0, 0, []⟩)))).run Tryz.prog (w4.alloc (.cells (FaC (mkF fz0)) 29)) = .ok () w5 := hst
 have HX5 := hide X5
 have HB5 := hide (HB4.out.trans (B5.mono HB4.out.size))
 have HQ : Hid (PSrc w5 q /\ ∃ C : Nat -> List Rn, (∀ r, r < 16 -> MinusOf (runsAt f.p.P r) (runsAt g.p.P r) (C r)) /\ CanonOf C q.P) := ⟨S4.below B5, C4⟩
 have HG6 : Hid (wk.heap.size <= g6 /\ g6 < w5.heap.size) := ⟨by rw [<- hg6]; exact HB4.out.size, X5.lt⟩
 have HI0 : Hid (LaI wk w5 g6 f g.es q 0 none 0 [] w5) := ⟨X5, K.OwnE.nil HB5.out (Nat.le_refl _) HB5.out.size, rfl, fun _ _ _ => rfl⟩
 clear S4 N4 b4 C4 X5 B5 hs5
 go_wp2_with fail
 clear hst hg6
 go_loopw [7] (fun i wr => ∃ (k : Nat) (a : Option Addr) (c : Nat) (acc : List K.En), k <= f.an /\ i = .int .i64 (k : Int) /\ Hid (LaI wk w5 g6 f g.es q k a c acc wr)) (fun i _ => f.an - (intOf i).toNat)
 case atStart => exact ⟨0, none, 0, [], Nat.zero_le _, rfl, HI0.out⟩
 case round =>
  obtain ⟨k, a, c, acc, hk, rfl, HI⟩ := hrel
  rename World => wr
  have cf := (HX.out.below HI.out.own.below).cs.1
  have hbig := HF.out.es.2.2.2.2
  by_cases hlt : k < f.an
  ·have hlti : (k : Int) < (f.an : Int) := by omega
   obtain ⟨ad, hao, A0⟩ := (HF.out.below HI.out.own.below).es.at k hlt
   obtain ⟨e, He⟩ : ∃ e, Hid (f.es.getD k K.en0 = e) := ⟨_, rfl⟩
   rw [He.out] at A0
   rw [hao] at cf
   have Hao := hide hao
   have Hlt := hide hlt
   have Hin : Hid (e ∈ f.es) := by rw [<- He.out]; exact getE_mem (by rw [HF.out.es.1]; exact hlt)
   have HSt : Hid (∀ W, Below wk.heap.size wk W -> W.cell? ⟨G, 0, none⟩ = some (.slice (some ad) f.an f.ac) /\ (K.ld28 (.pointer (some (ad.add (k * 4))))).run Tryz.prog W = .ok (K.EV e) W /\ (ldFa (.pointer (some ⟨G + 1, 0, none⟩))).run Tryz.prog W = .ok (FaV (mkF g)) W) := fun W hW => by
    have h2 := (HF.out.below hW).es.2.2.1 ad Hao.out k Hlt.out
    rw [He.out] at h2
    exact ⟨by rw [<- Hao.out]; exact (HX.out.below hW).cs.1, K.run_ld28 h2, run_ldFa (HY.out.below hW)⟩
   have HI7 := hide (HI.out.later (below_drew1 wr))
   clear A0 hao hlt
   go_upto_region 7 with fail
   clear cf
   refine wp_region_held_drew (S := fun W => W.cell? ⟨G, 0, none⟩ = some (.slice (some ad) f.an f.ac) /\ (K.ld28 (.pointer (some (ad.add (k * 4))))).run Tryz.prog W = .ok (K.EV e) W /\ (ldFa (.pointer (some ⟨G + 1, 0, none⟩))).run Tryz.prog W = .ok (FaV (mkF g)) W) (by kernel_rfl) (HSt.out _ HI7.out.own.below) (fun hHeld => ?_)
   refine wTk 0 ⟨some 31, .load 29 (.tmp 3), 29, "ref.go:123", #[], none⟩ rfl ?_
   refine wTk 1 ⟨some 32, .fieldAddr 29 (.tmp 2) 0, 0, "ref.go:123", #[], none⟩ rfl ?_
   refine wTk 2 ⟨some 33, .load 22 (.tmp 32), 22, "ref.go:123", #[⟨1, .data⟩], none⟩ rfl ?_
   refine wTk 3 ⟨some 34, .move (.tmp 7), 3, "ref.go:123", #[], none⟩ rfl ?_
   refine wTk 4 ⟨some 35, .indexAddr 22 (.tmp 33) (.tmp 34), 0, "ref.go:123", #[⟨2, .data⟩, ⟨3, .data⟩], none⟩ rfl ?_
   refine wTk 5 ⟨some 36, .load 36 (.tmp 35), 36, "ref.go:123", #[⟨4, .data⟩], none⟩ rfl ?_
   refine wpAnyH_ready (rs := [6]) (by kernel_rfl) (by simp) (.cons rfl (fun K hK => ?_) .nil)
   go_simp
   go_wp2_with fail
   refine (hasAdd_any g e _ (HG.out.below HI7.out.own.below) HCg.out).mono ?_
   rintro x w8 ⟨b, rfl, hb, b8⟩
   have HI8 := hide (HI7.out.later b8)
   have Hb := hide hb
   refine hK.out _ _ (HSt.out _ HI8.out.own.below) (fun hHeld => ?_)
   clear hK K
   clear hb b8
   refine wTk 7 ⟨some 38, .unOp .not 4 (.tmp 37), 4, "ref.go:123", #[⟨6, .data⟩], none⟩ rfl ?_
   refine wpAnyH_done (by kernel_rfl) ?_ _
   clear hHeld
   cases b with
   | true =>
    have HN := hide (HI8.out.skip (by rw [HF.out.es.1]; exact Hlt.out) He.out (Hb.out.1 rfl))
    go_wp2_with fail
    go_roundw
    case rel => exact ⟨k + 1, a, c, acc, Hlt.out, by simp, HN.out⟩
    case measure => simp [intOf]; have := Hlt.out; omega
   | false =>
    have Hm : Hid (e ∉ g.es) := fun h => by have := Hb.out.2 h; cases this
    have HI9 := hide (HI8.out.later (below_drew1 w8))
    have cf := (HX.out.below HI8.out.own.below).cs.1
    rw [Hao.out] at cf
    go_upto_region 8 with fail
    clear cf
    refine wp_region_held_drew (S := fun W => W.cell? ⟨G, 0, none⟩ = some (.slice (some ad) f.an f.ac) /\ (K.ld28 (.pointer (some (ad.add (k * 4))))).run Tryz.prog W = .ok (K.EV e) W /\ (ldFa (.pointer (some ⟨G + 1, 0, none⟩))).run Tryz.prog W = .ok (FaV (mkF g)) W) (by kernel_rfl) (HSt.out _ HI9.out.own.below) (fun hHeld => ?_)
    refine wTk 0 ⟨some 39, .fieldAddr 29 (.tmp 6) 0, 0, "ref.go:124", #[], none⟩ rfl ?_
    refine wTk 2 ⟨some 41, .fieldAddr 29 (.tmp 2) 0, 0, "ref.go:124", #[], none⟩ rfl ?_
    refine wTk 3 ⟨some 42, .load 22 (.tmp 41), 22, "ref.go:124", #[⟨2, .data⟩], none⟩ rfl ?_
    refine wTk 4 ⟨some 43, .move (.tmp 7), 3, "ref.go:124", #[], none⟩ rfl ?_
    refine wTk 5 ⟨some 44, .indexAddr 22 (.tmp 42) (.tmp 43), 0, "ref.go:124", #[⟨3, .data⟩, ⟨4, .data⟩], none⟩ rfl ?_
    refine wTk 6 ⟨some 45, .load 36 (.tmp 44), 36, "ref.go:124", #[⟨5, .data⟩], none⟩ rfl ?_
    obtain ⟨u0, hu0⟩ : ∃ u, w8.drew = u := ⟨_, rfl⟩
    rw [hu0] at HI9
    rw [hu0]
    clear hu0
    refine wpAnyH_ready (rs := [1, 7]) (by kernel_rfl) (by simp) ?_
    refine AllReadyH.cons rfl (fun K hK => ?_) (AllReadyH.cons rfl (fun K hK => ?_) AllReadyH.nil)
    ·have d1 := HI9.out.box.cs.1
     go_simp
     refine hK.out _ _ (HSt.out _ HI9.out.own.below) (fun hHeld => ?_)
     clear hK K
     clear d1
     refine wpAnyH_ready (rs := [7]) (by kernel_rfl) (by simp) ?_
     refine AllReadyH.cons rfl (fun K hK => ?_) AllReadyH.nil
     obtain ⟨u7, hu7⟩ : ∃ u, u0.alloc (.cells (Go.Proofs.YtalpnhfoaohhhaaGreat.K.EC e) 36) = u := ⟨_, rfl⟩
     have HJ7 := hide (HI9.out.later (below_new u0 (.cells (Go.Proofs.YtalpnhfoaohhhaaGreat.K.EC e) 36)))
     rw [hu7] at HJ7
     go_simp
     refine hK.out _ _ (HSt.out _ HJ7.out.own.below) (fun hHeld => ?_)
     clear hK K
     refine wpAnyH_ready (rs := [8]) (by kernel_rfl) (by simp) ?_
     refine AllReadyH.cons rfl (fun K hK => ?_) AllReadyH.nil
     obtain ⟨a8, c8, u8, r8, O8, k8⟩ := HI9.out.app e (HF.out.es.2.2.2.1 e Hin.out) (by have := HI9.out.len; have := Hlt.out; omega)
     obtain ⟨X8, N8⟩ := HI9.out.next HG6.out.1 HG6.out.2 O8 k8 (by rw [HF.out.es.1]; exact Hlt.out) He.out Hm.out
     have HN := hide N8
     have hc8 := FaBox.c0 X8
     have hf8 := FaBox.fzC X8 0
     have HB8 := hide O8.below
     rw [hu7] at r8
     refine step_appM (by rfl) (.tmp 40) (.tmp 46) (by rfl) (by rfl) (by rfl) r8 ?_
     refine hK.out _ _ (HSt.out _ HB8.out) (fun hHeld => ?_)
     clear hK K
     clear r8 O8 k8 X8 N8
     refine wTk 9 ⟨some 48, .fieldAddr 29 (.tmp 6) 0, 0, "ref.go:124", #[⟨0, .phase⟩, ⟨1, .phase⟩, ⟨2, .phase⟩, ⟨3, .phase⟩, ⟨4, .phase⟩, ⟨5, .phase⟩, ⟨6, .phase⟩, ⟨7, .phase⟩, ⟨8, .phase⟩], none⟩ rfl ?_
     refine wpAnyH_ready (rs := [10]) (by kernel_rfl) (by simp) (.cons rfl (fun K hK => ?_) .nil)
     go_simp
     refine hK.out _ _ (HSt.out _ HN.out.own.below) (fun hHeld => ?_)
     clear hK K
     refine wpAnyH_done (by kernel_rfl) ?_ _
     clear hHeld
     clear hc8 hf8
     go_wp2_with fail
     go_roundw
     case rel => exact ⟨k + 1, _, _, _, Hlt.out, by simp, HN.out⟩
     case measure => simp [intOf]; have := Hlt.out; omega
    ·obtain ⟨u7, hu7⟩ : ∃ u, u0.alloc (.cells (Go.Proofs.YtalpnhfoaohhhaaGreat.K.EC e) 36) = u := ⟨_, rfl⟩
     have HJ7 := hide (HI9.out.later (below_new u0 (.cells (Go.Proofs.YtalpnhfoaohhhaaGreat.K.EC e) 36)))
     rw [hu7] at HJ7
     go_simp
     refine hK.out _ _ (HSt.out _ HJ7.out.own.below) (fun hHeld => ?_)
     clear hK K
     refine wpAnyH_ready (rs := [1]) (by kernel_rfl) (by simp) ?_
     refine AllReadyH.cons rfl (fun K hK => ?_) AllReadyH.nil
     have d5 := HJ7.out.box.cs.1
     go_simp
     refine hK.out _ _ (HSt.out _ HJ7.out.own.below) (fun hHeld => ?_)
     clear hK K
     clear d5
     refine wpAnyH_ready (rs := [8]) (by kernel_rfl) (by simp) ?_
     refine AllReadyH.cons rfl (fun K hK => ?_) AllReadyH.nil
     obtain ⟨a8, c8, u8, r8, O8, k8⟩ := HI9.out.app e (HF.out.es.2.2.2.1 e Hin.out) (by have := HI9.out.len; have := Hlt.out; omega)
     obtain ⟨X8, N8⟩ := HI9.out.next HG6.out.1 HG6.out.2 O8 k8 (by rw [HF.out.es.1]; exact Hlt.out) He.out Hm.out
     have HN := hide N8
     have hc8 := FaBox.c0 X8
     have hf8 := FaBox.fzC X8 0
     have HB8 := hide O8.below
     rw [hu7] at r8
     refine step_appM (by rfl) (.tmp 40) (.tmp 46) (by rfl) (by rfl) (by rfl) r8 ?_
     refine hK.out _ _ (HSt.out _ HB8.out) (fun hHeld => ?_)
     clear hK K
     clear r8 O8 k8 X8 N8
     refine wTk 9 ⟨some 48, .fieldAddr 29 (.tmp 6) 0, 0, "ref.go:124", #[⟨0, .phase⟩, ⟨1, .phase⟩, ⟨2, .phase⟩, ⟨3, .phase⟩, ⟨4, .phase⟩, ⟨5, .phase⟩, ⟨6, .phase⟩, ⟨7, .phase⟩, ⟨8, .phase⟩], none⟩ rfl ?_
     refine wpAnyH_ready (rs := [10]) (by kernel_rfl) (by simp) (.cons rfl (fun K hK => ?_) .nil)
     go_simp
     refine hK.out _ _ (HSt.out _ HN.out.own.below) (fun hHeld => ?_)
     clear hK K
     refine wpAnyH_done (by kernel_rfl) ?_ _
     clear hHeld
     clear hc8 hf8
     go_wp2_with fail
     go_roundw
     case rel => exact ⟨k + 1, _, _, _, Hlt.out, by simp, HN.out⟩
     case measure => simp [intOf]; have := Hlt.out; omega
  ·have hlti : ¬ (k : Int) < (f.an : Int) := by omega
   have hacc : acc = f.es.filter (notIn g.es) := by rw [HI.out.eq, List.take_of_length_le (by rw [HF.out.es.1]; omega)]
   obtain ⟨S9, N9⟩ := HI.out.own.src (fun e he => HF.out.es.2.2.2.1 e (by rw [hacc] at he; exact (List.mem_filter.1 he).1)) (by have := HI.out.len; omega)
   have HS9 : Hid (K.ESrc wr a acc.length c acc /\ PSrc wr q /\ acc = f.es.filter (notIn g.es)) := ⟨S9, psrc_fr HX5.out HQ.out.1 HI.out.fr, hacc⟩
   have HBr := hide HI.out.own.below
   have HXr := hide HI.out.box
   have HG9 : Hid (g6 < wr.heap.size) := HI.out.box.lt
   have HJ0 : Hid (LbI wk wr g6 f g.rs a acc.length c acc q 0 hs0 [] wr) := ⟨HI.out.box, ⟨World.ownsRow_nil _ _ _ _, fun p h => (by cases h), HBr.out, HBr.out.size, Nat.le_refl _⟩, LrI.start _ _, Nat.le_refl _, fun _ _ _ => rfl⟩
   clear S9 N9 hacc hk HI hbig
   go_wp2_with fail
   clear cf hlti
   go_loopw [8] (fun i wq => ∃ (k : Nat) (h : Hs) (D : List Rc), k <= f.rn /\ i = .int .i64 (k : Int) /\ Hid (LbI wk wr g6 f g.rs a acc.length c acc q k h D wq)) (fun i _ => f.rn - (intOf i).toNat)
   case atStart => exact ⟨0, hs0, [], Nat.zero_le _, rfl, HJ0.out⟩
   case round =>
    obtain ⟨k, h, D, hk, rfl, HI⟩ := hrel
    rename World => wq
    have cf := (HX.out.below HI.out.own.below).cs.2
    have hbig := HF.out.rs.big
    by_cases hlt : k < f.rn
    ·have hlti : (k : Int) < (f.rn : Int) := by omega
     obtain ⟨ad, hao, A0⟩ := (HF.out.below HI.out.own.below).rs.at k hlt
     obtain ⟨e, He⟩ : ∃ e, Hid (f.rs.getD k rc0 = e) := ⟨_, rfl⟩
     rw [hao] at cf
     have Hao := hide hao
     have Hlt := hide hlt
     have HOk : Hid (∀ W, Below wk.heap.size wk W -> RcOk W e) := fun W hW => by
      have h2 := (HF.out.below hW).rs.okAt k Hlt.out
      rw [He.out] at h2
      exact h2
     have HRo : Hid (RecOk e) := by
      have h2 := (okR_iff.1 (by rw [HF.out.rs.len]; exact HFo.out.1.2.2)).1 _ (rcD_mem (L := f.rs) (j := k) (by rw [HF.out.rs.len]; exact Hlt.out))
      rw [He.out] at h2
      exact h2
     have HSt : Hid (∀ W, Below wk.heap.size wk W -> W.cell? ⟨G, 3, none⟩ = some (.slice (some ad) f.rn f.rc) /\ (ldRe (.pointer (some (ad.add (k * 3))))).run Tryz.prog W = .ok (ReV (mkR e)) W /\ (ldFa (.pointer (some ⟨G + 1, 0, none⟩))).run Tryz.prog W = .ok (FaV (mkF g)) W) := fun W hW => by
      have h2 := (HF.out.below hW).rs.at_ ad Hao.out k Hlt.out
      rw [He.out] at h2
      exact ⟨by rw [<- Hao.out]; exact (HX.out.below hW).cs.2, run_laRe h2, run_ldFa (HY.out.below hW)⟩
     have HI7 := hide (HI.out.later (below_drew1 wq))
     clear A0 hao hlt
     go_upto_region 12 with fail
     clear cf
     refine wp_region_held_drew (S := fun W => W.cell? ⟨G, 3, none⟩ = some (.slice (some ad) f.rn f.rc) /\ (ldRe (.pointer (some (ad.add (k * 3))))).run Tryz.prog W = .ok (ReV (mkR e)) W /\ (ldFa (.pointer (some ⟨G + 1, 0, none⟩))).run Tryz.prog W = .ok (FaV (mkF g)) W) (by kernel_rfl) (HSt.out _ HI7.out.own.below) (fun hHeld => ?_)
     refine wTk 0 ⟨some 56, .load 29 (.tmp 3), 29, "ref.go:128", #[], none⟩ rfl ?_
     refine wTk 1 ⟨some 57, .fieldAddr 29 (.tmp 2) 2, 0, "ref.go:128", #[], none⟩ rfl ?_
     refine wTk 2 ⟨some 58, .load 27 (.tmp 57), 27, "ref.go:128", #[⟨1, .data⟩], none⟩ rfl ?_
     refine wTk 3 ⟨some 59, .move (.tmp 8), 3, "ref.go:128", #[], none⟩ rfl ?_
     refine wTk 4 ⟨some 60, .indexAddr 27 (.tmp 58) (.tmp 59), 0, "ref.go:128", #[⟨2, .data⟩, ⟨3, .data⟩], none⟩ rfl ?_
     refine wTk 5 ⟨some 61, .load 62 (.tmp 60), 62, "ref.go:128", #[⟨4, .data⟩], none⟩ rfl ?_
     refine wpAnyH_ready (rs := [6]) (by kernel_rfl) (by simp) (.cons rfl (fun K hK => ?_) .nil)
     go_simp
     go_wp2_with fail
     refine (hasRec_any g e _ (HG.out.below HI7.out.own.below) (HOk.out _ HI7.out.own.below)).mono ?_
     rintro x w8 ⟨b, rfl, hb, b8⟩
     have HI8 := hide (HI7.out.later b8)
     have Hb := hide hb
     refine hK.out _ _ (HSt.out _ HI8.out.own.below) (fun hHeld => ?_)
     clear hK K
     clear hb b8
     refine wTk 7 ⟨some 63, .unOp .not 4 (.tmp 62), 4, "ref.go:128", #[⟨6, .data⟩], none⟩ rfl ?_
     refine wpAnyH_done (by kernel_rfl) ?_ _
     clear hHeld
     cases b with
     | true =>
      have HN := hide (HI8.out.skip (by rw [HF.out.rs.len]; exact Hlt.out) He.out (Hb.out.1 rfl))
      go_wp2_with fail
      go_roundw
      case rel => exact ⟨k + 1, h, D, Hlt.out, by simp, HN.out⟩
      case measure => simp [intOf]; have := Hlt.out; omega
     | false =>
      have Hm : Hid (rck e ∉ plR g.rs) := fun h => by have := Hb.out.2 h; cases this
      have HI9 := hide (HI8.out.later (below_drew1 w8))
      have cf := (HX.out.below HI8.out.own.below).cs.2
      rw [Hao.out] at cf
      go_upto_region 13 with fail
      clear cf
      refine wp_region_held_drew (S := fun W => W.cell? ⟨G, 3, none⟩ = some (.slice (some ad) f.rn f.rc) /\ (ldRe (.pointer (some (ad.add (k * 3))))).run Tryz.prog W = .ok (ReV (mkR e)) W /\ (ldFa (.pointer (some ⟨G + 1, 0, none⟩))).run Tryz.prog W = .ok (FaV (mkF g)) W) (by kernel_rfl) (HSt.out _ HI9.out.own.below) (fun hHeld => ?_)
      refine wTk 0 ⟨some 64, .fieldAddr 29 (.tmp 6) 2, 0, "ref.go:129", #[], none⟩ rfl ?_
      refine wTk 2 ⟨some 66, .fieldAddr 29 (.tmp 2) 2, 0, "ref.go:129", #[], none⟩ rfl ?_
      refine wTk 3 ⟨some 67, .load 27 (.tmp 66), 27, "ref.go:129", #[⟨2, .data⟩], none⟩ rfl ?_
      refine wTk 4 ⟨some 68, .move (.tmp 8), 3, "ref.go:129", #[], none⟩ rfl ?_
      refine wTk 5 ⟨some 69, .indexAddr 27 (.tmp 67) (.tmp 68), 0, "ref.go:129", #[⟨3, .data⟩, ⟨4, .data⟩], none⟩ rfl ?_
      refine wTk 6 ⟨some 70, .load 62 (.tmp 69), 62, "ref.go:129", #[⟨5, .data⟩], none⟩ rfl ?_
      obtain ⟨u0, hu0⟩ : ∃ u, w8.drew = u := ⟨_, rfl⟩
      rw [hu0] at HI9
      rw [hu0]
      clear hu0
      refine wpAnyH_ready (rs := [1, 7]) (by kernel_rfl) (by simp) ?_
      refine AllReadyH.cons rfl (fun K hK => ?_) (AllReadyH.cons rfl (fun K hK => ?_) AllReadyH.nil)
      ·have d7 := HI9.out.box.cs.2
       go_simp
       refine hK.out _ _ (HSt.out _ HI9.out.own.below) (fun hHeld => ?_)
       clear hK K
       clear d7
       refine wpAnyH_ready (rs := [7]) (by kernel_rfl) (by simp) ?_
       refine AllReadyH.cons rfl (fun K hK => ?_) AllReadyH.nil
       obtain ⟨u7, hu7⟩ : ∃ u, u0.alloc (.cells (ReC (mkR e)) 62) = u := ⟨_, rfl⟩
       have HJ7 := hide (HI9.out.later (below_new u0 (.cells (ReC (mkR e)) 62)))
       rw [hu7] at HJ7
       go_simp
       refine hK.out _ _ (HSt.out _ HJ7.out.own.below) (fun hHeld => ?_)
       clear hK K
       refine wpAnyH_ready (rs := [8]) (by kernel_rfl) (by simp) ?_
       refine AllReadyH.cons rfl (fun K hK => ?_) AllReadyH.nil
       obtain ⟨g8, c8, u8, r8, O8, k8, -, -⟩ := HI9.out.own.appAt e (HOk.out _ HI9.out.own.below) (farH_of HI9.out.own (HOk.out wk (Below.refl _ _)).1) (by have := HI9.out.num; have := Hlt.out; omega)
       obtain ⟨X8, N8⟩ := HI9.out.next (h2 := ⟨some ⟨g8, 0, none⟩, h.n + 1, c8⟩) HG6.out.1 HG9.out O8 k8 (by rw [HF.out.rs.len]; exact Hlt.out) He.out Hm.out HRo.out rfl
       have HN := hide N8
       have hc8 := FaBox.c3 X8
       have hf8 := FaBox.fzC X8 3
       have HB8 := hide O8.below
       rw [hu7] at r8
       refine step_appM (by rfl) (.tmp 65) (.tmp 71) (by rfl) (by rfl) (by rfl) r8 ?_
       refine hK.out _ _ (HSt.out _ HB8.out) (fun hHeld => ?_)
       clear hK K
       clear r8 O8 k8 X8 N8
       refine wTk 9 ⟨some 73, .fieldAddr 29 (.tmp 6) 2, 0, "ref.go:129", #[⟨0, .phase⟩, ⟨1, .phase⟩, ⟨2, .phase⟩, ⟨3, .phase⟩, ⟨4, .phase⟩, ⟨5, .phase⟩, ⟨6, .phase⟩, ⟨7, .phase⟩, ⟨8, .phase⟩], none⟩ rfl ?_
       refine wpAnyH_ready (rs := [10]) (by kernel_rfl) (by simp) (.cons rfl (fun K hK => ?_) .nil)
       go_simp
       refine hK.out _ _ (HSt.out _ HN.out.own.below) (fun hHeld => ?_)
       clear hK K
       refine wpAnyH_done (by kernel_rfl) ?_ _
       clear hHeld
       clear hc8 hf8
       go_wp2_with fail
       go_roundw
       case rel => exact ⟨k + 1, _, _, Hlt.out, by simp, HN.out⟩
       case measure => simp [intOf]; have := Hlt.out; omega
      ·obtain ⟨u7, hu7⟩ : ∃ u, u0.alloc (.cells (ReC (mkR e)) 62) = u := ⟨_, rfl⟩
       have HJ7 := hide (HI9.out.later (below_new u0 (.cells (ReC (mkR e)) 62)))
       rw [hu7] at HJ7
       go_simp
       refine hK.out _ _ (HSt.out _ HJ7.out.own.below) (fun hHeld => ?_)
       clear hK K
       refine wpAnyH_ready (rs := [1]) (by kernel_rfl) (by simp) ?_
       refine AllReadyH.cons rfl (fun K hK => ?_) AllReadyH.nil
       have d11 := HJ7.out.box.cs.2
       go_simp
       refine hK.out _ _ (HSt.out _ HJ7.out.own.below) (fun hHeld => ?_)
       clear hK K
       clear d11
       refine wpAnyH_ready (rs := [8]) (by kernel_rfl) (by simp) ?_
       refine AllReadyH.cons rfl (fun K hK => ?_) AllReadyH.nil
       obtain ⟨g8, c8, u8, r8, O8, k8, -, -⟩ := HI9.out.own.appAt e (HOk.out _ HI9.out.own.below) (farH_of HI9.out.own (HOk.out wk (Below.refl _ _)).1) (by have := HI9.out.num; have := Hlt.out; omega)
       obtain ⟨X8, N8⟩ := HI9.out.next (h2 := ⟨some ⟨g8, 0, none⟩, h.n + 1, c8⟩) HG6.out.1 HG9.out O8 k8 (by rw [HF.out.rs.len]; exact Hlt.out) He.out Hm.out HRo.out rfl
       have HN := hide N8
       have hc8 := FaBox.c3 X8
       have hf8 := FaBox.fzC X8 3
       have HB8 := hide O8.below
       rw [hu7] at r8
       refine step_appM (by rfl) (.tmp 65) (.tmp 71) (by rfl) (by rfl) (by rfl) r8 ?_
       refine hK.out _ _ (HSt.out _ HB8.out) (fun hHeld => ?_)
       clear hK K
       clear r8 O8 k8 X8 N8
       refine wTk 9 ⟨some 73, .fieldAddr 29 (.tmp 6) 2, 0, "ref.go:129", #[⟨0, .phase⟩, ⟨1, .phase⟩, ⟨2, .phase⟩, ⟨3, .phase⟩, ⟨4, .phase⟩, ⟨5, .phase⟩, ⟨6, .phase⟩, ⟨7, .phase⟩, ⟨8, .phase⟩], none⟩ rfl ?_
       refine wpAnyH_ready (rs := [10]) (by kernel_rfl) (by simp) (.cons rfl (fun K hK => ?_) .nil)
       go_simp
       refine hK.out _ _ (HSt.out _ HN.out.own.below) (fun hHeld => ?_)
       clear hK K
       refine wpAnyH_done (by kernel_rfl) ?_ _
       clear hHeld
       clear hc8 hf8
       go_wp2_with fail
       go_roundw
       case rel => exact ⟨k + 1, _, _, Hlt.out, by simp, HN.out⟩
       case measure => simp [intOf]; have := Hlt.out; omega
    ·have hlti : ¬ (k : Int) < (f.rn : Int) := by omega
     have hkn : k = f.rs.length := by rw [HF.out.rs.len]; omega
     obtain ⟨R1, R2, -⟩ := ownRc_row HI.out.own (by have := HI.out.num; omega)
     have HZr := HZ.out.below HI.out.own.below
     have hFc : FcOk wq ⟨a, acc.length, c, acc, q, h.o, h.n, h.c, D⟩ := ⟨esrc_fr HXr.out HS9.out.1 HI.out.fr, psrc_fr HXr.out HS9.out.2.1 HI.out.fr, R1.src⟩
     have lo := run_ldFa HI.out.box
     have stz := run_stFa (m' := mkF ⟨a, acc.length, c, acc, q, h.o, h.n, h.c, D⟩) HZr
     have hli := HI.out.li
     rw [hkn] at hli
     have HE := hide (give_fe (w := w) (f := ⟨a, acc.length, c, acc, q, h.o, h.n, h.c, D⟩) (er := 0) (LsD f g) HZr hFc ⟨R1.room, R1.nil⟩ (HBK.out.trans (HI.out.own.below.mono HBK.out.size)) (by rw [HGs.out]; omega) (.inr ⟨HFo.out.1, HFo.out.2, rfl, HS9.out.2.2, HQ.out.2, hli.done (okR_iff.1 (by rw [HF.out.rs.len]; exact HFo.out.1.2.2)).2, by have := HI.out.num; show h.n <= f.rn; omega⟩))
     clear R1 R2 HZr hFc hli hkn hbig hk
     go_wp2_with fail
     clear cf lo stz
     refine bodyPost_ret (res2Fb rfl rfl rfl HE.out.1) rfl ?_
     exact HE.out.2
end
section
open Go.RowKit
attribute [local go_sem ↓] ldP_eq stP_eq ldFa_eq stFa_eq bldF_eq
attribute [local go_sem] cells_PV PC_size cells_FaV FaC_size zero_FaZ run_bldF0
theorem refWithin10_any (f g : Fc) (w : World) (hF : FcOk w f) (hG : FcOk w g) (hf : FcR f) :
  Calls Tryz.prog 20 #[FaV (mkF f), FaV (mkF g)] w fun e w' => ∃ b er, e = .returned (.tuple #[.bool b, .int .i64 er]) /\ WtD f g b er /\ Below w.heap.size w w' := by
 obtain ⟨wk, hwk, HX, HY, HBK⟩ := box2F w f g
 have HF := hide (hF.below HBK.out)
 have HG := hide (hG.below HBK.out)
 have HR := hide hf
 clear hF hG hf
 have lf := run_ldFa HX.out
 have lg := run_ldFa HY.out
 go_enter Tryz.func20, Tryz.ntmps20
 go_wp2_with fail
 clear hwk lf lg
 refine (refLessF_any f g _ HF.out HG.out HR.out).mono ?_
 rintro e w3 ⟨h, er, rfl, F3, R3, b3, D3⟩
 obtain ⟨g5, hg5⟩ : ∃ g, w3.heap.size = g := ⟨_, rfl⟩
 obtain ⟨w5, hst, X5, B5, -⟩ := madeFa w3 (mkF h) g5 hg5
 replace hst : (stFa (.pointer (some ⟨g5, 0, none⟩)) (FaV (mkF h))).run Tryz.prog (w3.alloc (.cells (FaC (mkF fz0)) 29)) = .ok () w5 := hst
 have HB5 := hide (HBK.out.trans ((b3.trans (B5.mono b3.size)).mono HBK.out.size))
 have HX5 := hide X5
 have HF5 := hide (F3.below B5)
 have HD := hide D3
 clear F3 R3 b3 D3 X5 B5
 rcases HD.out with ⟨h1, rfl, h2⟩ | ⟨h1, h2, rfl, h3⟩
 ·have HE : Hid (∃ b er, Ending.returned (.tuple #[.bool false, .int .i64 1]) = .returned (.tuple #[.bool b, .int .i64 er]) /\ WtD f g b er /\ Below w.heap.size w w5) := ⟨false, 1, rfl, .inl ⟨h1, rfl, rfl⟩, HB5.out⟩
  clear h1 h2
  go_wp2_with fail
  go_ret2
  exact HE.out
 have HL : Hid (FormF f /\ FormF g /\ LeOf f g h) := ⟨h1, h2, h3⟩
 clear h1 h2 h3
 have e0 := HL.out.2.2.e0 HF5.out
 have r0 := HL.out.2.2.r0 HF5.out
 have g0 := HL.out.2.2.g0
 obtain ⟨c0, -⟩ := HX5.out.cs
 by_cases h0 : h.an = 0
 rotate_left
 ·have e1 : ((h.an : Int) == 0) = false := by rw [beq_eq_false_iff_ne]; omega
  have HE : Hid (∃ b er, Ending.returned (.tuple #[.bool false, .int .i64 0]) = .returned (.tuple #[.bool b, .int .i64 er]) /\ WtD f g b er /\ Below w.heap.size w w5) := ⟨false, 0, rfl, .inr ⟨HL.out.1, HL.out.2.1, rfl, fun q => (by cases q), fun q => absurd (e0.2 q.1) h0⟩, HB5.out⟩
  clear h0 e0 r0 g0
  go_wp2_with fail
  go_ret2
  exact HE.out
 have HE0 := hide (e0.1 h0)
 have e1 : ((h.an : Int) == 0) = true := by rw [h0]; rfl
 have lp := run_ldP HX5.out.past
 have HR0 := hide r0
 have HG0 := hide g0
 clear h0 e0 r0 g0
 go_wp2_with fail
 clear hst hg5 c0 e1 lp
 refine (refEmpty_any h.p _ HF5.out.p).mono ?_
 rintro e w6 ⟨b, rfl, hb, b6⟩
 have HB6 := hide (HB5.out.trans (b6.mono HB5.out.size))
 obtain ⟨-, c3⟩ := (HX5.out.below b6).cs
 clear b6
 cases b with
 | false =>
  have HE : Hid (∃ b er, Ending.returned (.tuple #[.bool false, .int .i64 0]) = .returned (.tuple #[.bool b, .int .i64 er]) /\ WtD f g b er /\ Below w.heap.size w w6) := ⟨false, 0, rfl, .inr ⟨HL.out.1, HL.out.2.1, rfl, fun q => (by cases q), fun q => (by have := hb.2 (HG0.out.2 q.2.1); cases this)⟩, HB6.out⟩
  clear hb
  go_wp2_with fail
  go_ret2
  exact HE.out
 | true =>
  have HP := hide (HG0.out.1 (hb.1 rfl))
  clear hb
  by_cases h0 : h.rn = 0
  ·have e1 : ((h.rn : Int) == 0) = true := by rw [h0]; rfl
   have HE : Hid (∃ b er, Ending.returned (.tuple #[.bool true, .int .i64 0]) = .returned (.tuple #[.bool b, .int .i64 er]) /\ WtD f g b er /\ Below w.heap.size w w6) := ⟨true, 0, rfl, .inr ⟨HL.out.1, HL.out.2.1, rfl, fun _ => ⟨HE0.out, HP.out, HR0.out.1 h0⟩, fun _ => rfl⟩, HB6.out⟩
   clear h0
   go_wp2_with fail
   go_ret2
   exact HE.out
  ·have e1 : ((h.rn : Int) == 0) = false := by rw [beq_eq_false_iff_ne]; omega
   have HE : Hid (∃ b er, Ending.returned (.tuple #[.bool false, .int .i64 0]) = .returned (.tuple #[.bool b, .int .i64 er]) /\ WtD f g b er /\ Below w.heap.size w w6) := ⟨false, 0, rfl, .inr ⟨HL.out.1, HL.out.2.1, rfl, fun q => (by cases q), fun q => absurd (HR0.out.2 q.2.2) h0⟩, HB6.out⟩
   clear h0
   go_wp2_with fail
   go_ret2
   exact HE.out
theorem refOrder10_any (f g : Fc) (w : World) (hF : FcOk w f) (hG : FcOk w g) (hf : FcR f) (hg : FcR g) :
  Calls Tryz.prog 21 #[FaV (mkF f), FaV (mkF g)] w fun e w' => ∃ k er, e = .returned (.tuple #[.int .i64 k, .int .i64 er]) /\ OrD f g k er /\ Below w.heap.size w w' := by
 obtain ⟨wk, hwk, HX, HY, HBK⟩ := box2F w f g
 have HF := hide (hF.below HBK.out)
 have HG := hide (hG.below HBK.out)
 have HR := hide (And.intro hf hg)
 clear hF hG hf hg
 have lf := run_ldFa HX.out
 have lg := run_ldFa HY.out
 go_enter Tryz.func21, Tryz.ntmps21
 go_wp2_with fail
 clear hwk lf lg
 refine (refWithin10_any f g _ HF.out HG.out HR.out.1).mono ?_
 rintro e w3 ⟨x, er, rfl, hx, b3⟩
 have HB3 := hide (HBK.out.trans (b3.mono HBK.out.size))
 have HX3 := hide (HX.out.below b3)
 have HY3 := hide (HY.out.below b3)
 have HF3 := hide (HF.out.below b3)
 have HG3 := hide (HG.out.below b3)
 clear b3
 rcases hx with ⟨h1, rfl, rfl⟩ | ⟨h1, h2, rfl, hx⟩
 ·have HE : Hid (∃ k er, Ending.returned (.tuple #[.int .i64 0, .int .i64 1]) = .returned (.tuple #[.int .i64 k, .int .i64 er]) /\ OrD f g k er /\ Below w.heap.size w w3) := ⟨0, 1, rfl, .inl ⟨h1, rfl, rfl⟩, HB3.out⟩
  clear h1
  go_wp2_with fail
  go_ret2
  exact HE.out
 have HFo : Hid (FormF f /\ FormF g /\ (x = true ↔ WiOf f g)) := ⟨h1, h2, hx⟩
 clear h1 h2 hx
 have lf := run_ldFa HX3.out
 have lg := run_ldFa HY3.out
 go_wp2_with fail
 clear lf lg
 refine (refWithin10_any g f _ HG3.out HF3.out HR.out.2).mono ?_
 rintro e w4 ⟨y, er, rfl, hy, b4⟩
 have HB4 := hide (HB3.out.trans (b4.mono HB3.out.size))
 clear b4
 rcases hy with ⟨h1, -⟩ | ⟨-, -, rfl, hy⟩
 ·exact absurd ⟨HFo.out.2.1, HFo.out.1⟩ h1
 have HE : Hid (∃ k er, Ending.returned (.tuple #[.int .i64 (ordK x y), .int .i64 0]) = .returned (.tuple #[.int .i64 k, .int .i64 er]) /\ OrD f g k er /\ Below w.heap.size w w4) := ⟨_, 0, rfl, .inr ⟨HFo.out.1, HFo.out.2.1, rfl, x, y, HFo.out.2.2, hy, rfl⟩, HB4.out⟩
 clear hy
 cases x with
 | false =>
  cases y with
  | false =>
   go_wp2_with fail
   go_ret2
   exact HE.out
  | true =>
   go_wp2_with fail
   go_ret2
   exact HE.out
 | true =>
  cases y with
  | false =>
   go_wp2_with fail
   go_ret2
   exact HE.out
  | true =>
   go_wp2_with fail
   go_ret2
   exact HE.out
end
section
open Go.RowKit
attribute [local go_sem ↓] ldP_eq stP_eq ldFa_eq stFa_eq
attribute [local go_sem] cells_PV PC_size cells_FaV FaC_size
theorem less_isF {w w0 : World} {f g h : Fc} (hf : FcOk w0 f) (hh : FcOk w h) (Ff : FormF f) (L : LeOf f g h) :
  IsF h (fun x => x ∈ f.es /\ x ∉ g.es) (fun r n => mem (runsAt f.p.P r) n /\ ¬ mem (runsAt g.p.P r) n) (fun y => y ∈ plR f.rs /\ y ∉ plR g.rs) := by
 obtain ⟨C, h1, h2⟩ := L.2.1
 refine ⟨⟨(chk_okN hh.es.1).1 (by rw [L.1]; exact chk_filter ((chk_okN hf.es.1).2 Ff.1) _), canon_iff.1 h2.canon, by have := okR_iff.2 (⟨L.2.2.1.2.1, L.2.2.1.1⟩ : (∀ r ∈ h.rs, RecOk r) /\ Srt ck (plR h.rs)); rwa [hh.rs.len] at this⟩, ⟨hh.es.1, hh.rs.len⟩, fun x => by rw [L.1, List.mem_filter, notIn_iff], fun r hr n => ?_, L.2.2.1.2.2⟩
 rw [canon_mem h2 r hr n]
 exact (h1 r hr).2 n
end
end Go.Proofs.YtalpnhfoaohhhaaGreat
