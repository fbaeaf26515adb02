/- LFnd LFn2 EFb BAe EFq EFa -/
import Derived.Test.YtcnciccljblkfaaGreatTk
import Derived.Test.YtcnciccljblkfaaGreatEf32
import Derived.Test.YtcnciccljblkfaaGreatEf34
import Derived.Test.YtcnciccljblkfaaGreatEf33
import Derived.Maps.AppendAt
import Derived.Laws.AppendOwnNone
import Derived.Test.YtcnciccljblkfaaGreatEf27
import Derived.Deep.CutRange
import Derived.Test.YtcnciccljblkfaaGreatEf26
import Derived.Test.YtcnciccljblkfaaGreatEf12
namespace Go.Proofs.YtcnciccljblkfaaGreat.K
open Go.RowKit
attribute [local go_sem ↓] ld28_eq st28_eq ld26_eq run_eqD run_eq28
attribute [local go_sem] zero_EC cells_EV EC_size
structure DotAt (w : World) (g : Nat) (e : En) : Prop where
 c0 : w.cell? ⟨g, 0, none⟩ = some (.int .i64 e.rep)
 c1 : w.cell? ⟨g, 1, none⟩ = some (.int .i64 e.num)
theorem DotAt.on {w w' : World} {g : Nat} {e : En} (D : DotAt w g e) (hb : Below w.heap.size w w') : DotAt w' g e :=
 ⟨(hb.cell (World.block_lt_of_cell? _ _ D.c0)).trans D.c0, (hb.cell (World.block_lt_of_cell? _ _ D.c1)).trans D.c1⟩
theorem dot_new (w : World) (e : En) : DotAt (w.alloc (.cells (DC e) 34)) w.heap.size e := ⟨by simp [DC], by simp [DC]⟩
theorem run_ldD {w : World} {g : Nat} {e : En} (D : DotAt w g e) : (ld26 (.pointer (some ⟨g, 0, none⟩))).run Tryz.prog w = .ok (.agg (DC e)) w := by
 have hl := run_loadCells_list (P := Tryz.prog) (w := w) ⟨g, 0, none⟩ (DC e).toList (fun j v hv => by
  match j, hv with
  | 0, hv => cases hv; rw [add_zero]; exact D.c0
  | 1, hv => cases hv; rw [Addr.add_lit]; exact D.c1
  | j + 2, hv => simp [DC] at hv)
 cases hq : Tryz.prog.info? 34 with
 | none => have := size26; simp [hq] at this
 | some x =>
  have hs : x.size = 2 := by have := size26; simpa [hq] using this
  have hagg : (isAgg 34).run Tryz.prog w = .ok true w := by
   unfold isAgg
   rw [Sem.run_bind, run_underlying Tryz.underlying34 w]
   rfl
  have e4 : (DC e).toList.length = 2 := rfl
  rw [e4] at hl
  unfold ld26
  simp only [Instr.loadAt, Instr.sureAddr, Sem.run_bind, Sem.run_pure, Result.andThen]
  simp [loadVar, Sem.run_bind, hagg, sizeOf, typeInfo, hq, hs, hl]
theorem cells_DV (e : En) : (Value.agg (DC e)).cells = DC e := by simp [Value.cells]
attribute [local go_sem] cells_DV
def IxOf (L : List En) (x : En) (k : Int) : Prop := (k = -1 ∧ ∀ i, i < L.length → sameDot (L.getD i en0) x = false) ∨ ∃ i, i < L.length ∧ k = (i : Int) ∧ sameDot (L.getD i en0) x = true ∧ ∀ j, j < i → sameDot (L.getD j en0) x = false
def fdE (L : List En) (k : Int) : En := if k < 0 then en0 else L.getD k.toNat en0
def fdB (k : Int) : Bool := decide (0 ≤ k)
theorem resF {fn : Func} {p q : Tmp} {w : World} {g : Nat} {T : TypeId} {e : En} {b : Value} (h : fn.results = #[.cell p 36, .tmp q]) {tmps : Array Value} (hp : tmps.getD p undef = .pointer (some ⟨g, 0, none⟩)) (hq : tmps.getD q undef = b) (A : Box w g T e) :
  (results fn tmps).run Tryz.prog w = .ok (.tuple #[EV e, b]) w := by
 have hl := run_lv28 A.at
 simp only [results, h]
 rw [Array.getD_eq_getD_getElem?] at hp hq
 simp [hp, hq, asAddr, hl]
def GivesF (w w' : World) (y : Ending) (L : List En) (x : En) : Prop := ∃ k, y = .returned (.tuple #[EV (fdE L k), .bool (fdB k)]) ∧ IxOf L x k ∧ Below w.heap.size w w'
end Go.Proofs.YtcnciccljblkfaaGreat.K
namespace Go.Proofs.YtcnciccljblkfaaGreat.K
open Go.RowKit
attribute [local go_sem ↓] ld28_eq st28_eq ld26_eq run_eqD run_eq28
attribute [local go_sem] zero_EC cells_EV EC_size
attribute [local go_sem] cells_DV
theorem find1_any (e x : En) (b : Nat) (w : World) (D : DotAt w b x) : Calls Tryz.prog 25 #[EV e, .pointer (some ⟨b, 0, none⟩)] w fun y w' => y = .returned (.bool (sameDot e x)) ∧ Below w.heap.size w w' := by
 have X1 := box_new w 36 e
 have HB := hide (below_new w (.cells (EC e) 36))
 have l1 := run_ld26 X1.at
 have l2 := run_ldD (D.on HB.out)
 clear X1
 go_enter Tryz.func25, Tryz.ntmps25
 go_wp2_with fail
 go_ret
 exact ⟨rfl, HB.out⟩
set_option maxRecDepth 100000 in
set_option maxHeartbeats 4000000 in
theorem index_any (ao : Option Addr) (n cap : Nat) (L : List En) (x : En) (b : Nat) (w : World) (hS : ESrc w ao n cap L) (D : DotAt w b x) :
  Calls Tryz.prog 24 #[.slice ao n cap, .func (.func 25) #[] #[.pointer (some ⟨b, 0, none⟩)]] w fun y w' => ∃ k, y = .returned (.int .i64 k) ∧ IxOf L x k ∧ Below w.heap.size w w' := by
 have HS := hide hS
 have hn := hS.2.2.2.2
 have HL : Hid (L.length = n) := hS.1
 have HD := hide D
 clear hS D
 go_enter Tryz.func24, Tryz.ntmps24
 go_wp2_with fail
 go_loopw [5, 8] (fun _ i wr => ∃ k : Nat, k ≤ n ∧ i = .int .i64 k ∧ Hid ((∀ j, j < k → sameDot (L.getD j en0) x = false) ∧ Below w.heap.size w wr)) (fun _ i _ => n - (intOf i).toNat)
 case atStart => exact ⟨0, Nat.zero_le _, rfl, fun i hi => by omega, Below.refl _ _⟩
 case round =>
  obtain ⟨k, hk, rfl, H⟩ := hrel
  rename World => w4
  by_cases hlt : k < n
  ·obtain ⟨ad, rfl, A0⟩ := (HS.out.below H.out.2).at k hlt
   have hld := run_ld28 A0
   obtain ⟨e, He⟩ : ∃ e, Hid (L.getD k en0 = e) := ⟨_, rfl⟩
   rw [He.out] at hld
   clear A0
   have HC := hide (find1_any e x b w4 (HD.out.on H.out.2))
   obtain ⟨q, Hq⟩ : ∃ q, Hid (sameDot e x = q) := ⟨_, rfl⟩
   rw [Hq.out] at HC
   cases q with
   | false =>
    go_wp2_with fail
    refine HC.out.mono ?_
    rintro y w5 ⟨rfl, b5⟩
    have HN : Hid ((∀ j, j < k + 1 → sameDot (L.getD j en0) x = false) ∧ Below w.heap.size w w5) := ⟨fun j hj => by
     by_cases ej : j = k
     ·rw [ej, He.out]; exact Hq.out
     ·exact H.out.1 j (by omega), H.out.2.trans (b5.mono H.out.2.size)⟩
    clear b5
    go_wp2_with fail
    go_roundw
    case rel => exact ⟨k + 1, by omega, by go_num, HN⟩
    case measure => simp [intOf]; omega
   | true =>
    go_wp2_with fail
    refine HC.out.mono ?_
    rintro y w5 ⟨rfl, b5⟩
    have HN : Hid (IxOf L x (k : Int) ∧ Below w.heap.size w w5) := ⟨Or.inr ⟨k, by rw [HL.out]; exact hlt, rfl, by rw [He.out]; exact Hq.out, H.out.1⟩, H.out.2.trans (b5.mono H.out.2.size)⟩
    clear b5
    go_wp2_with fail
    go_ret
    exact ⟨_, rfl, HN.out⟩
  ·obtain rfl : k = n := by omega
   have HN : Hid (IxOf L x (-1) ∧ Below w.heap.size w w4) := ⟨Or.inl ⟨rfl, by rw [HL.out]; exact H.out.1⟩, H.out.2⟩
   go_wp2_with fail
   go_ret
   exact ⟨_, rfl, HN.out⟩
set_option maxRecDepth 100000 in
set_option maxHeartbeats 4000000 in
theorem find_any (ao : Option Addr) (n cap : Nat) (L : List En) (x : En) (w : World) (hS : ESrc w ao n cap L) :
  Calls Tryz.prog 9 #[.slice ao n cap, .agg (DC x)] w fun y w' => GivesF w w' y L x := by
 have hn := hS.2.2.2.2
 have HL : Hid (L.length = n) := hS.1
 have B1 := below_new w (.cells (DC x) 34)
 have HB2 : Hid (Below w.heap.size w ((w.alloc (.cells (DC x) 34)).alloc (.cells (EC en0) 36))) := B1.trans ((below_new _ _).mono B1.size)
 have HD : Hid (DotAt ((w.alloc (.cells (DC x) 34)).alloc (.cells (EC en0) 36)) w.heap.size x) := (dot_new w x).on (below_new _ _)
 have HX : Hid (Box ((w.alloc (.cells (DC x) 34)).alloc (.cells (EC en0) 36)) (w.heap.size + 1) 36 en0) := by have := box_new (w.alloc (.cells (DC x) 34)) 36 en0; rwa [World.size_alloc] at this
 have HS := hide (hS.below HB2.out)
 obtain ⟨w2, Hw2⟩ : ∃ w2, Hid ((w.alloc (.cells (DC x) 34)).alloc (.cells (EC en0) 36) = w2) := ⟨_, rfl⟩
 rw [Hw2.out] at HB2 HD HX HS
 clear hS B1
 go_enter Tryz.func9, Tryz.ntmps9
 go_wp2_with fail
 rw [Hw2.out]
 refine (index_any ao n cap L x w.heap.size _ HS.out HD.out).mono ?_
 rintro y w3 ⟨k, rfl, hk, b3⟩
 have HK := hide hk
 have HB3 := hide (HB2.out.trans (b3.mono HB2.out.size))
 have X3 := HX.out.below b3
 have HX3 := hide X3
 have HS3 := hide (HS.out.below b3)
 clear b3 hk X3
 by_cases h0 : k < 0
 ·have HE : Hid (fdE L k = en0) := by show _ = _; unfold fdE; rw [if_pos h0]
  have HF : Hid (fdB k = false) := by show _ = _; unfold fdB; simp; omega
  have hst := run_st28 (e' := en0) HX3.out
  have HX4 := hide (HX3.out.setRow (e' := en0))
  have HB4 : Hid (Below w.heap.size w (w3.setRow (w.heap.size + 1) (EC en0))) := below_setRow HB3.out (by omega)
  go_wp2_with fail
  refine bodyPost_ret (resF Tryz.results9 rfl rfl HX4.out) rfl ⟨k, by rw [HE.out, HF.out]; rfl, HK.out, HB4.out⟩
 ·obtain ⟨i, rfl⟩ : ∃ i : Nat, k = (i : Int) := ⟨k.toNat, by omega⟩
  have hil : i < n := by
   rcases HK.out with ⟨h, _⟩ | ⟨i', h1, h2, _⟩
   ·omega
   ·rw [HL.out] at h1; omega
  obtain ⟨ad, rfl, A0⟩ := HS3.out.at i hil
  have hld := run_ld28 A0
  obtain ⟨e, He⟩ : ∃ e, Hid (L.getD i en0 = e) := ⟨_, rfl⟩
  rw [He.out] at hld
  have HE : Hid (fdE L (i : Int) = e) := by show _ = _; unfold fdE; rw [if_neg h0, Int.toNat_natCast, He.out]
  have HF : Hid (fdB (i : Int) = true) := by show _ = _; unfold fdB; simp
  have hst := run_st28 (e' := e) HX3.out
  have HX4 := hide (HX3.out.setRow (e' := e))
  have HB4 : Hid (Below w.heap.size w (w3.setRow (w.heap.size + 1) (EC e))) := below_setRow HB3.out (by omega)
  clear A0 h0
  go_wp2_with fail
  refine bodyPost_ret (resF Tryz.results9 rfl rfl HX4.out) rfl ⟨(i : Int), by rw [HE.out, HF.out]; rfl, HK.out, HB4.out⟩
end Go.Proofs.YtcnciccljblkfaaGreat.K
namespace Go.Proofs.YtcnciccljblkfaaGreat
open Go.RowKit
attribute [local go_sem ↓] ldP_eq stP_eq ldFa_eq stFa_eq K.ld28_eq K.st28_eq K.ld26_eq
attribute [local go_sem] cells_PV PC_size cells_FaV FaC_size K.zero_EC K.cells_EV K.EC_size
theorem wt_few {W : World} {R : List Rc} (hl : R.length ≤ 1) (hR : ∀ r ∈ R, RcOk W r) (s : ByteArray) : wt (ofS R s) ≤ 8796093022207 := by
 have h2 := ofS_len R s
 have h3 : ∀ p ∈ ofS R s, p.P.cloud.length ≤ 5864062014805 := fun p hp => by
  obtain ⟨r, hr, -, rfl⟩ := ofS_mem.1 hp
  have h := (hR r hr).1.cloud
  rw [h.len]; exact h.big
 match hX : ofS R s with
 | [] => simp [wt]
 | [p] =>
  have := h3 p (by rw [hX]; simp)
  simp only [wt]
  omega
 | _ :: _ :: _ => rw [hX] at h2; simp at h2; omega
set_option maxRecDepth 100000 in
set_option maxHeartbeats 3200000 in
theorem effect_any (ao : Option Addr) (n cap : Nat) (L : List K.En) (f : Fc) (w : World) (hS : K.ESrc w ao n cap L) (hF : FcOk w f) :
  Calls Tryz.prog 4 #[.slice ao n cap, FaV (mkF f)] w fun x w' => EfA w w' x L f := by
 have HX := hide (FaBox_new w (mkF f))
 have HBK := hide (below_new w (.cells (FaC (mkF f)) 29))
 have HF := hide (hF.below HBK.out)
 have HS := hide (hS.below HBK.out)
 have HL : Hid (L.length = n) := hS.1
 have hanb := hF.es.2.2.2.2
 have HAl : Hid (f.es.length = f.an ∧ f.rs.length = f.rn) := ⟨hF.es.1, hF.rs.len⟩
 clear hF hS
 obtain ⟨wk, hwk⟩ : ∃ wk, w.alloc (.cells (FaC (mkF f)) 29) = wk := ⟨_, rfl⟩
 obtain ⟨G, hG⟩ : ∃ G, w.heap.size = G := ⟨_, rfl⟩
 rw [hwk] at HX HBK HF HS
 rw [hG] at HX
 go_enter Tryz.func4, Tryz.ntmps4
 go_wp2_with fail
 clear hwk hG
 refine (K.lcheck_any ao n cap L _ HS.out).mono ?_
 rintro x w1 ⟨rfl, b1⟩
 have HB1 := hide b1
 clear b1
 rcases K.chk_cases L with hc | hc
 rotate_left
 ·have HE : Hid (EfA w w1 (.returned (.tuple #[.slice none 0 0, .int .i64 1])) L f) := ⟨_, _, _, _, _, rfl, K.ESrc.none _, HBK.out.trans (HB1.out.mono HBK.out.size), .inl ⟨by rw [hc]; decide, rfl, rfl⟩⟩
  rw [hc]
  clear hc
  go_wp2_with fail
  go_ret2
  exact HE.out
 rw [hc]
 have HC := hide hc
 clear hc
 have lf := run_ldFa (HX.out.below HB1.out)
 go_wp2_with fail
 clear lf
 refine (actEvent_any f w1 (HF.out.below HB1.out)).mono ?_
 rintro x w2 ⟨z, rfl, hz, b2⟩
 have HB2 := hide (HB1.out.trans (b2.mono HB1.out.size))
 have HEv := hide hz
 clear b2 hz HB1
 by_cases hz0 : z = 0
 rotate_left
 ·have HE : Hid (EfA w w2 (.returned (.tuple #[.slice none 0 0, .int .i64 z])) L f) := ⟨_, _, _, _, _, rfl, K.ESrc.none _, HBK.out.trans (HB2.out.mono HBK.out.size), .inr (.inl ⟨HC.out, HEv.out, hz0, rfl⟩)⟩
  have hzb : (z != 0) = true := by simp [hz0]
  clear hz0
  go_wp2_with fail
  go_ret2
  exact HE.out
 subst hz0
 have HFo := hide (ev_form HEv.out)
 have hle := one_le HFo.out.2
 have HXr := hide (HX.out.below HB2.out)
 have a2 := HXr.out.cs.1
 go_wp2_with fail
 clear a2
 go_loopw [27] (fun i wr => ∃ k : Nat, k ≤ f.an ∧ i = .int .i64 (k : Int) ∧ Hid (Below w2.heap.size w2 wr ∧ ∀ t, t < k → ∀ y ∈ L, K.sameDot y (f.es.getD t K.en0) = false)) (fun i _ => f.an - (intOf i).toNat)
 case atStart => exact ⟨0, Nat.zero_le _, rfl, Below.refl _ _, fun t h => absurd h (by omega)⟩
 case round =>
  obtain ⟨k, hk, rfl, HI⟩ := hrel
  rename World => wr
  by_cases hlt : k < f.an
  ·have hlti : (k : Int) < (f.an : Int) := by omega
   have HBr := hide (HB2.out.trans (HI.out.1.mono HB2.out.size))
   obtain ⟨ad, hao, A0⟩ := (HF.out.es.below HBr.out).at k hlt
   obtain ⟨e, He⟩ : ∃ e, Hid (f.es.getD k K.en0 = e) := ⟨_, rfl⟩
   rw [He.out] at A0
   have hld := K.run_ld28 A0
   obtain ⟨g7, hg7⟩ : ∃ g7, wr.heap.size = g7 := ⟨_, rfl⟩
   obtain ⟨w7, hst, X7, B7, -⟩ := K.made wr e g7 hg7
   have HB7 := hide (HBr.out.trans (B7.mono HBr.out.size))
   have HI7 := hide (HI.out.1.trans (B7.mono HI.out.1.size))
   have l7 := K.run_ld26 X7.at
   have HS7 := hide (HS.out.below HB7.out)
   have Hlt := hide hlt
   rw [hao]
   clear A0 X7 B7 hlt hk hao
   go_wp2_with fail
   clear hst hld l7 hg7
   refine (K.find_any ao n cap L e w7 HS7.out).mono ?_
   rintro x w8 ⟨q, rfl, hq, b8⟩
   obtain ⟨fe, Hfe⟩ : ∃ fe, Hid (K.fdE L q = fe) := ⟨_, rfl⟩
   rw [Hfe.out]
   obtain ⟨g9, hg9⟩ : ∃ g9, w8.heap.size = g9 := ⟨_, rfl⟩
   obtain ⟨w9, hst, X9, B9, -⟩ := K.made w8 fe g9 hg9
   have HB9 := hide (HI7.out.trans ((b8.trans (B9.mono b8.size)).mono HI7.out.size))
   clear X9 B9 b8 HB7 HI7 HS7 HBr
   rcases hq with ⟨rfl, hno⟩ | ⟨i, hi, rfl, hs, -⟩
   ·rw [show K.fdB (-1) = false from rfl]
    have HN : Hid (∀ t, t < k + 1 → ∀ y ∈ L, K.sameDot y (f.es.getD t K.en0) = false) := fun t ht y hy => by
     by_cases e1 : t = k
     ·rw [e1, He.out]
      obtain ⟨j, hj, rfl⟩ := List.getElem_of_mem hy
      have := hno j hj
      rwa [show L.getD j K.en0 = L[j] by simp [List.getD, List.getElem?_eq_getElem hj]] at this
     ·exact HI.out.2 t (by omega) y hy
    clear hno
    go_wp2_with fail
    clear hst hg9
    go_roundw
    case rel => exact ⟨k + 1, Hlt.out, by simp, HB9.out, HN.out⟩
    case measure => simp [intOf]; have := Hlt.out; omega
   ·have hfb : K.fdB (i : Int) = true := by unfold K.fdB; simp
    rw [hfb]
    have HE : Hid (EfA w w9 (.returned (.tuple #[.slice none 0 0, .int .i64 10])) L f) := by
     have hkl : k < f.es.length := by rw [HAl.out.1]; exact Hlt.out
     refine ⟨_, _, _, _, _, rfl, K.ESrc.none _, HBK.out.trans ((HB2.out.trans (HB9.out.mono HB2.out.size)).mono HBK.out.size), .inr (.inr (.inl ⟨HC.out, HEv.out, ⟨e, ?_, L.getD i K.en0, ?_, hs⟩, rfl, rfl⟩))⟩
     ·rw [← He.out, show f.es.getD k K.en0 = f.es[k] by simp [List.getD, List.getElem?_eq_getElem hkl]]
      exact List.getElem_mem hkl
     ·rw [show L.getD i K.en0 = L[i] by simp [List.getD, List.getElem?_eq_getElem hi]]
      exact List.getElem_mem hi
    clear hs hfb
    go_wp2_with fail
    go_ret2
    exact HE.out
  ·have hlti : ¬ (k : Int) < (f.an : Int) := by omega
   have HNC : Hid (¬ EfC L f) := by
    rintro ⟨a, ha, y, hy, hs⟩
    obtain ⟨j, hj, rfl⟩ := List.getElem_of_mem ha
    have h1 := HI.out.2 j (by have := HAl.out.1; omega) y hy
    rw [show f.es.getD j K.en0 = f.es[j] by simp [List.getD, List.getElem?_eq_getElem hj], hs] at h1
    cases h1
   have HB3 := hide (HB2.out.trans (HI.out.1.mono HB2.out.size))
   have l3 := run_ldP (HX.out.below HB3.out).past
   clear HI hlt hk
   go_wp2_with fail
   clear l3
   refine (outside_any ao n cap L f.p wr (HS.out.below HB3.out) (HF.out.p.below HB3.out)).mono ?_
   rintro x w4 (⟨-, -, a4, n4, c4, rfl, S4, b4, -⟩ | ⟨hno, -⟩)
   rotate_left
   ·exact absurd ⟨HC.out, HFo.out.1.2.1⟩ hno
   have HB4 := hide (HB3.out.trans (b4.mono HB3.out.size))
   have HS4 := hide S4
   clear S4 b4 HB3
   have r4 := (HX.out.below HB4.out).cs.2
   go_wp2_with fail
   clear r4
   refine (apply_any a4 f.ro n4 c4 f.rn f.rc _ f.rs w4 HS4.out (HF.out.rs.below HB4.out) (wt_few (by rw [HAl.out.2]; exact hle.2) (HF.out.rs.below HB4.out).ok) (by have h := HS4.out.2.2.2.2; have h2 : f.rn * (n4 + 1) ≤ 1 * (n4 + 1) := Nat.mul_le_mul_right _ hle.2; omega)).mono ?_
   rintro x w5 (⟨-, -, a5, n5, c5, rfl, S5, b5, -⟩ | ⟨hno, -⟩)
   rotate_left
   ·exact absurd ⟨filter_chkE HC.out, HFo.out.1.2.2⟩ hno
   have HB5 := hide (HB4.out.trans (b5.mono HB4.out.size))
   have HS5 := hide S5
   clear S5 b5 HB4 HS4
   have a5' := (HX.out.below HB5.out).cs.1
   go_wp2_with fail
   clear a5'
   refine (K.union_any a5 f.ao n5 c5 f.an f.ac _ f.es w5 HS5.out (HF.out.es.below HB5.out)).mono ?_
   rintro x w6 ⟨a6, n6, c6, U, er, rfl, S6, b6, hU⟩
   obtain ⟨rfl, hAs, hm⟩ := eff_union HC.out (chk_of HAl.out.1 HFo.out.1.1) HNC.out hU
   have HE : Hid (EfA w w6 (.returned (.tuple #[.slice a6 n6 c6, .int .i64 0])) L f) := ⟨a6, n6, c6, U, 0, rfl, S6, HBK.out.trans ((HB5.out.trans (b6.mono HB5.out.size)).mono HBK.out.size), .inr (.inr (.inr ⟨HC.out, HEv.out, HNC.out, rfl, hAs, hm⟩))⟩
   clear S6 b6 hU hAs hm
   go_wp2_with fail
   go_ret2
   exact HE.out
end Go.Proofs.YtcnciccljblkfaaGreat
namespace Go.Proofs.YtcnciccljblkfaaGreat.K
open Go.RowKit
theorem OwnE.appRun {B0 B : Nat} {w W : World} {ao : Option Addr} {cap : Nat} {acc : List En} (O : OwnE B0 B w W ao cap acc) (bo : Option Addr) (m c : Nat) (R : List En) (hR : ESrc W bo m c R) (n l : Nat) (hn : acc.length = n) (hl : n + m = l) (hlen : l ≤ 3518437208883) :
  ∃ a' c' W', (Builtin.append_ #[22, 22] 22 #[.slice ao n cap, .slice bo m c]).run Tryz.prog W = .ok (.slice a' l c') W' ∧ OwnE B0 B w W' a' c' (acc ++ R) ∧ (∀ q, q < W.heap.size → (Value.slice ao n cap).ownBlock ≠ some q → W'.heap[q]? = W.heap[q]?) ∧ ((Value.slice a' l c').ownBlock = (Value.slice ao n cap).ownBlock ∨ (Value.slice a' l c').ownBlock = some W.heap.size) ∧ W.heap.size ≤ W'.heap.size := by
 subst hn hl
 obtain ⟨i0, hi, hz0, hz1, hz2⟩ := info_parts info28
 have hB := O.hB
 have hB0 := O.hB0
 cases bo with
 | none =>
  obtain ⟨rfl, rfl⟩ := hR.2.1 rfl
  obtain rfl : R = [] := List.eq_nil_of_length_eq_zero hR.1
  have hrun := run_append_owned_none (P := Tryz.prog) (w := W) B 22 22 36 i0 4 Tryz.underlying22 hi _ acc.length (ecs acc) O.own
  exact ⟨ao, cap, W, hrun, by rw [List.append_nil]; exact O, fun _ _ _ => rfl, .inl rfl, Nat.le_refl _⟩
 | some ad =>
  obtain ⟨v', W2, hrun, hown, hgrow, _, hat⟩ := run_append_own_at (P := Tryz.prog) W B 22 22 36 i0 (.agg #[.int .i64 0, .int .i64 0, .string ⟨#[]⟩, .int .i64 0]) 4 40 Tryz.underlying22 hi hz0 hz1 hz2 rfl (by decide) (.slice ao acc.length cap) acc.length (ecs acc) O.own ad m c (ecs R) (by rw [ecs_length, hR.1]) (fun j u hj => hR.cells j u hj) (ecs_onecell R) (by unfold maxLen; omega) (by omega) hB
  have hrow : ∀ k, (Value.slice ao acc.length cap).ownBlock = some k → B ≤ k := fun k hk => (O.own.lt k hk).1
  have hsz := hgrow.size
  have hbel : Below B0 w W2 := O.below.grown hgrow (by omega) (fun k hk => by have := hrow k hk; omega)
  have hm : m = R.length := hR.1.symm
  have hown2 : W2.ownsRow B 36 4 v' (acc ++ R).length (ecs (acc ++ R)) := by rw [List.length_append, ecs_append, ← hm]; exact hown
  rcases hown.2 with ⟨h0, h00⟩ | ⟨g, cap2, cur, hv, r⟩
  ·subst h0
   have e0 : acc.length + m = 0 := h00
   rw [e0]
   refine ⟨none, 0, W2, hrun, ⟨?_, hbel, by omega, hB0⟩, fun q hq hn => hgrow.block q hq (fun e => hn e.symm), hat, hsz⟩
   rw [List.length_append, ← hm, e0] at hown2
   rw [List.length_append, ← hm, e0]
   exact hown2
  ·subst hv
   refine ⟨some ⟨g, 0, none⟩, cap2, W2, hrun, ⟨?_, hbel, by omega, hB0⟩, fun q hq hn => hgrow.block q hq (fun e => hn e.symm), hat, hsz⟩
   rw [List.length_append, ← hm] at hown2 ⊢
   exact hown2
end Go.Proofs.YtcnciccljblkfaaGreat.K
namespace Go.Proofs.YtcnciccljblkfaaGreat
open Go.RowKit
attribute [local go_sem ↓] ldP_eq stP_eq ldFa_eq stFa_eq ldRe_eq stRe_eq K.ld28_eq K.st28_eq K.ld26_eq K.run_eqD
attribute [local go_sem] cells_PV PC_size cells_FaV FaC_size K.zero_EC K.cells_EV K.EC_size cells_ReV ReC_size
theorem as_at {B : List K.En} (h : K.Asc B) {i j : Nat} (hij : i < j) (hj : j < B.length) : K.ahead (B.getD i K.en0) (B.getD j K.en0) = true := by
 have h1 := List.pairwise_iff_getElem.1 h i j (by omega) hj hij
 simpa [List.getD, List.getElem?_eq_getElem hj, List.getElem?_eq_getElem (show i < B.length by omega)] using h1
theorem no_ahead {x y : K.En} (h : K.ahead y x = false) (hs : K.sameDot x y = false) : K.ahead x y = true := by
 simp [K.ahead, K.sameDot] at *; omega
theorem as_snoc {acc : List K.En} {e : K.En} (h : K.Asc acc) (he : ∀ x ∈ acc, K.ahead x e = true) : K.Asc (acc ++ [e]) := by
 refine List.pairwise_append.2 ⟨h, List.pairwise_singleton _ _, fun x hx y hy => ?_⟩
 obtain rfl := List.mem_singleton.1 hy
 exact he x hx
def stayE (f : Fc) (x : K.En) : Bool := !inB f.p.P x && freeB f.rs x
structure EfI (L : List K.En) (f : Fc) (k : Nat) (p : Bool) (acc : List K.En) : Prop where
 asc : K.Asc acc
 mem : ∀ x, x ∈ acc ↔ (x ∈ L.take k ∧ stayE f x = true) ∨ (p = true ∧ x ∈ f.es)
 la : ∀ x ∈ acc, ∀ t, k ≤ t → t < L.length → K.ahead x (L.getD t K.en0) = true
 no : p = true → ∀ a ∈ f.es, ∀ y ∈ L, K.sameDot y a = false
 lo : p = false → f.es = [f.es.getD 0 K.en0] ∧ ∀ t, t < k → t < L.length → K.ahead (L.getD t K.en0) (f.es.getD 0 K.en0) = true
 len : acc.length ≤ k + 1 ∧ (p = false → acc.length ≤ k)
theorem at_mem {L : List K.En} {k : Nat} (h : k < L.length) : L.getD k K.en0 ∈ L := by
 rw [show L.getD k K.en0 = L[k] by simp [List.getD, List.getElem?_eq_getElem h]]
 exact List.getElem_mem h
theorem mem_at' {L : List K.En} {y : K.En} (h : y ∈ L) : ∃ t, t < L.length ∧ L.getD t K.en0 = y := by
 obtain ⟨t, ht, rfl⟩ := List.getElem_of_mem h
 exact ⟨t, ht, by simp [List.getD, List.getElem?_eq_getElem ht]⟩
theorem mem_take {L : List K.En} {k : Nat} {y : K.En} (h : y ∈ L.take k) : ∃ t, t < k ∧ t < L.length ∧ L.getD t K.en0 = y := by
 obtain ⟨t, ht, rfl⟩ := List.getElem_of_mem h
 rw [List.length_take] at ht
 exact ⟨t, by omega, by omega, by simp [List.getD, List.getElem?_eq_getElem (show t < L.length by omega)]⟩
theorem EfI.loAll {L : List K.En} {f : Fc} {k : Nat} {acc : List K.En} (h : EfI L f k false acc) : ∀ x ∈ acc, K.ahead x (f.es.getD 0 K.en0) = true := fun x hx => by
 rcases (h.mem x).1 hx with ⟨h1, -⟩ | ⟨h1, -⟩
 ·obtain ⟨t, h2, h3, rfl⟩ := mem_take h1
  exact (h.lo rfl).2 t h2 h3
 ·cases h1
theorem EfI.start0 {L : List K.En} {f : Fc} (h : f.es = []) : EfI L f 0 true [] := ⟨List.Pairwise.nil, fun x => by simp [h], fun x hx => (by cases hx), fun _ a ha => (by rw [h] at ha; cases ha), fun h => (by cases h), Nat.zero_le _, fun _ => Nat.zero_le _⟩
theorem EfI.start1 {L : List K.En} {f : Fc} (h : f.es = [f.es.getD 0 K.en0]) : EfI L f 0 false [] := ⟨List.Pairwise.nil, fun x => by simp, fun x hx => (by cases hx), fun h => (by cases h), fun _ => ⟨h, fun t ht => absurd ht (by omega)⟩, Nat.zero_le _, fun _ => Nat.zero_le _⟩
theorem EfI.put {L : List K.En} {f : Fc} {k : Nat} {acc : List K.En} (hL : K.Asc L) (h : EfI L f k false acc) (_ : k < L.length) (ha : K.ahead (f.es.getD 0 K.en0) (L.getD k K.en0) = true) : EfI L f k true (acc ++ [f.es.getD 0 K.en0]) := by
 obtain ⟨he, hlo⟩ := h.lo rfl
 have hlater : ∀ t, k ≤ t → t < L.length → K.ahead (f.es.getD 0 K.en0) (L.getD t K.en0) = true := fun t h1 h2 => by
  by_cases e : t = k
  ·rw [e]; exact ha
  ·exact K.ahead_trans ha (as_at hL (by omega) h2)
 refine ⟨as_snoc h.asc h.loAll, fun x => ?_, fun x hx t h1 h2 => ?_, fun _ a haa y hy => ?_, fun h => (by cases h), by have := h.len.2 rfl; rw [List.length_append]; simp only [List.length_cons, List.length_nil]; omega, fun h => (by cases h)⟩
 ·rw [List.mem_append, h.mem x, List.mem_singleton]
  constructor
  ·rintro ((h1 | ⟨h1, -⟩) | h1)
   ·exact .inl h1
   ·cases h1
   ·exact .inr ⟨rfl, by rw [he, h1]; simp⟩
  ·rintro (h1 | ⟨-, h1⟩)
   ·exact .inl (.inl h1)
   ·rw [he] at h1
    exact .inr (by simpa using h1)
 ·rcases List.mem_append.1 hx with hx | hx
  ·exact h.la x hx t h1 h2
  ·obtain rfl := List.mem_singleton.1 hx
   exact hlater t h1 h2
 ·rw [he] at haa
  obtain rfl : a = f.es.getD 0 K.en0 := by simpa using haa
  obtain ⟨t, ht, rfl⟩ := mem_at' hy
  by_cases hlt : t < k
  ·exact K.ahead_same (hlo t hlt ht)
  ·rw [K.same_symm]
   exact K.ahead_same (hlater t (by omega) ht)
theorem EfI.keep {L : List K.En} {f : Fc} {k : Nat} {p : Bool} {acc : List K.En} (hL : K.Asc L) (h : EfI L f k p acc) (hk : k < L.length) (hs : stayE f (L.getD k K.en0) = true) (hp : p = false → K.ahead (L.getD k K.en0) (f.es.getD 0 K.en0) = true) : EfI L f (k + 1) p (acc ++ [L.getD k K.en0]) := by
 refine ⟨as_snoc h.asc (fun x hx => h.la x hx k (Nat.le_refl _) hk), fun x => ?_, fun x hx t h1 h2 => ?_, h.no, fun h0 => ⟨(h.lo h0).1, fun t h1 h2 => ?_⟩, by have := h.len.1; rw [List.length_append]; simp only [List.length_cons, List.length_nil]; omega, fun h0 => by have := h.len.2 h0; rw [List.length_append]; simp only [List.length_cons, List.length_nil]; omega⟩
 ·rw [List.mem_append, h.mem x, K.take_snoc L k hk, List.mem_append, List.mem_singleton]
  constructor
  ·rintro ((⟨h1, h2⟩ | h1) | rfl)
   ·exact .inl ⟨.inl h1, h2⟩
   ·exact .inr h1
   ·exact .inl ⟨.inr rfl, hs⟩
  ·rintro (⟨h1 | h1, h2⟩ | h1)
   ·exact .inl (.inl ⟨h1, h2⟩)
   ·exact .inr h1
   ·exact .inl (.inr h1)
 ·rcases List.mem_append.1 hx with hx | hx
  ·exact h.la x hx t (by omega) h2
  ·obtain rfl := List.mem_singleton.1 hx
   exact as_at hL (by omega) h2
 ·by_cases e : t = k
  ·rw [e]; exact hp h0
  ·exact (h.lo h0).2 t (by omega) h2
theorem EfI.drop {L : List K.En} {f : Fc} {k : Nat} {p : Bool} {acc : List K.En} (h : EfI L f k p acc) (hk : k < L.length) (hs : stayE f (L.getD k K.en0) = false) (hp : p = false → K.ahead (L.getD k K.en0) (f.es.getD 0 K.en0) = true) : EfI L f (k + 1) p acc := by
 refine ⟨h.asc, fun x => ?_, fun x hx t h1 h2 => h.la x hx t (by omega) h2, h.no, fun h0 => ⟨(h.lo h0).1, fun t h1 h2 => ?_⟩, by have := h.len.1; omega, fun h0 => by have := h.len.2 h0; omega⟩
 ·rw [h.mem x, K.take_snoc L k hk, List.mem_append, List.mem_singleton]
  constructor
  ·rintro (⟨h1, h2⟩ | h1)
   ·exact .inl ⟨.inl h1, h2⟩
   ·exact .inr h1
  ·rintro (⟨h1 | h1, h2⟩ | h1)
   ·exact .inl ⟨h1, h2⟩
   ·rw [h1, hs] at h2; cases h2
   ·exact .inr h1
 ·by_cases e : t = k
  ·rw [e]; exact hp h0
  ·exact (h.lo h0).2 t (by omega) h2
theorem stay_iff {f : Fc} {x : K.En} : stayE f x = true ↔ inB f.p.P x = false ∧ freeB f.rs x = true := by
 unfold stayE
 rw [Bool.and_eq_true, Bool.not_eq_true']
theorem EfI.done {L : List K.En} {f : Fc} {acc : List K.En} (h : EfI L f L.length true acc) : ¬ EfC L f ∧ ∀ x, x ∈ acc ↔ EfK L f x := by
 refine ⟨fun ⟨a, ha, y, hy, hs⟩ => ?_, fun x => ?_⟩
 ·rw [h.no rfl a ha y hy] at hs; cases hs
 ·rw [h.mem x, List.take_length, stay_iff]
  unfold EfK
  simp
theorem EfI.last {L : List K.En} {f : Fc} {acc : List K.En} (h : EfI L f L.length false acc) : EfI L f L.length true (acc ++ [f.es.getD 0 K.en0]) := by
 obtain ⟨he, hlo⟩ := h.lo rfl
 refine ⟨as_snoc h.asc h.loAll, fun x => ?_, fun x hx t h1 h2 => absurd h2 (by omega), fun _ a haa y hy => ?_, fun h => (by cases h), by have := h.len.2 rfl; rw [List.length_append]; simp only [List.length_cons, List.length_nil]; omega, fun h => (by cases h)⟩
 ·rw [List.mem_append, h.mem x, List.mem_singleton]
  constructor
  ·rintro ((h1 | ⟨h1, -⟩) | h1)
   ·exact .inl h1
   ·cases h1
   ·exact .inr ⟨rfl, by rw [he, h1]; simp⟩
  ·rintro (h1 | ⟨-, h1⟩)
   ·exact .inl (.inl h1)
   ·rw [he] at h1
    exact .inr (by simpa using h1)
 ·rw [he] at haa
  obtain rfl : a = f.es.getD 0 K.en0 := by simpa using haa
  obtain ⟨t, ht, rfl⟩ := mem_at' hy
  exact K.ahead_same (hlo t ht ht)
theorem inB_eq {P : Pst} {e : K.En} {b : Bool} (h : BIf b (dotIn P ⟨e.rep, e.num⟩)) : inB P e = b := by
 have h1 := inB_iff P e
 cases h2 : inB P e <;> cases b
 ·rfl
 ·rw [h2] at h1; exact absurd (h1.2 (h.out.1 rfl)) (by decide)
 ·rw [h2] at h1; exact absurd (h.out.2 (h1.1 rfl)) (by decide)
 ·rfl
def EfM (wb W : World) (ap : Option Addr) (l c : Nat) (L : List K.En) (f : Fc) (k : Nat) (p : Bool) : Prop := ∃ acc, acc.length = l ∧ K.OwnE wb.heap.size wb.heap.size wb W ap c acc ∧ EfI L f k p acc
theorem EfM.below {wb W : World} {ap : Option Addr} {l c : Nat} {L : List K.En} {f : Fc} {k : Nat} {p : Bool} (h : EfM wb W ap l c L f k p) : Below wb.heap.size wb W := by
 obtain ⟨acc, -, O, -⟩ := h
 exact O.below
theorem EfM.app {wb W : World} {ap : Option Addr} {l c : Nat} {L : List K.En} {f : Fc} {k k' : Nat} {p p' : Bool} (h : EfM wb W ap l c L f k p) (e : K.En) (hs : e.sku.size ≤ maxLen) (hl : l < 3518437208883) (hI : ∀ acc, EfI L f k p acc → EfI L f k' p' (acc ++ [e])) :
  ∃ a' c' W', (Builtin.append_ #[22, 22] 22 #[.slice ap l c, .slice (some ⟨W.heap.size, 0, none⟩) 1 1]).run Tryz.prog (W.alloc (.cells (K.EC e) 36)) = .ok (.slice a' (l + 1) c') W' ∧ EfM wb W' a' (l + 1) c' L f k' p' ∧ (∀ q, q < W.heap.size → (Value.slice ap l c).ownBlock ≠ some q → W'.heap[q]? = W.heap[q]?) := by
 obtain ⟨acc, h1, O, h2⟩ := h
 have b1 := below_new W (.cells (K.EC e) 36)
 have hL := K.lit_esrc W [e] (K.EC e) (by simp) 36 1 rfl (fun x hx => by rw [List.mem_singleton.1 hx]; exact hs) (by decide)
 obtain ⟨a', c', W', hr, O', hk, -, -⟩ := (O.later b1).appRun _ 1 1 _ hL l (l + 1) h1 rfl (by omega)
 exact ⟨a', c', W', hr, ⟨_, by rw [List.length_append, h1]; rfl, O', hI acc h2⟩, fun q hq hn => (hk q (by simp; omega) hn).trans (Below.heap_alloc W _ q hq)⟩
theorem EfM.later {wb W W' : World} {ap : Option Addr} {l c : Nat} {L : List K.En} {f : Fc} {k : Nat} {p : Bool} (h : EfM wb W ap l c L f k p) (hb : Below W.heap.size W W') : EfM wb W' ap l c L f k p := by
 obtain ⟨acc, h1, O, h2⟩ := h
 exact ⟨acc, h1, O.later hb, h2⟩
theorem EfM.imp {wb W : World} {ap : Option Addr} {l c : Nat} {L : List K.En} {f : Fc} {k k' : Nat} {p p' : Bool} (h : EfM wb W ap l c L f k p) (hI : ∀ acc, EfI L f k p acc → EfI L f k' p' acc) : EfM wb W ap l c L f k' p' := by
 obtain ⟨acc, h1, O, h2⟩ := h
 exact ⟨acc, h1, O, hI acc h2⟩
theorem EfM.own {wb W : World} {ap : Option Addr} {l c : Nat} {L : List K.En} {f : Fc} {k : Nat} {p : Bool} (h : EfM wb W ap l c L f k p) (q : Nat) (hq : (Value.slice ap l c).ownBlock = some q) : q < W.heap.size := by
 obtain ⟨acc, rfl, O, -⟩ := h
 exact (O.own.lt q hq).2
end Go.Proofs.YtcnciccljblkfaaGreat
namespace Go.Proofs.YtcnciccljblkfaaGreat
open Go.RowKit
attribute [local go_sem ↓] ldP_eq stP_eq ldRe_eq stRe_eq ldD_eq stD_eq K.ld28_eq K.st28_eq K.run_eq28
attribute [local go_sem] cells_PV PC_size cells_ReV ReC_size K.cells_EV K.EC_size zero_ReC K.zero_EC
set_option maxRecDepth 100000 in
theorem covers08_any (r : Rc) (e : K.En) (w : World) (hR : RcOk w r) : Calls Tryz.prog 18 #[ReV (mkR r), K.EV e] w fun x w' => x = .returned (.bool (covB r e)) ∧ Below w.heap.size w w' := by
 have b1 := below_new w (.cells (ReC (mkR r)) 52)
 have b2 := below_new (w.alloc (.cells (ReC (mkR r)) 52)) (.cells (K.EC e) 36)
 have X2 := K.box_new (w.alloc (.cells (ReC (mkR r)) 52)) 36 e
 rw [World.size_alloc] at X2
 have HXA := hide ((ReBox_new w (mkR r)).below b2)
 have HXB := hide X2
 have HBK := hide (b1.trans (b2.mono b1.size))
 have HS := hide (hR.1.below HBK.out)
 clear b1 b2 X2 hR
 obtain ⟨wk, hwk⟩ : ∃ wk, (w.alloc (.cells (ReC (mkR r)) 52)).alloc (.cells (K.EC e) 36) = wk := ⟨_, rfl⟩
 obtain ⟨G, hG⟩ : ∃ G, w.heap.size = G := ⟨_, rfl⟩
 rw [hwk] at HXA HXB HBK HS
 rw [hG] at HXA HXB
 have c0 := HXA.out.sk
 have c2 : wk.cell? ⟨G + 1, 2, none⟩ = some (.string e.sku) := HXB.out.at.c2
 have l1 := run_ldP HXA.out.past
 have l2 := run_ldD (enc_dot HXB.out)
 have key : Hid (Calls Tryz.prog 17 #[PV r.p, RV ⟨e.rep, e.num⟩] wk fun x w' => GivB wk w' x (dotIn r.p.P ⟨e.rep, e.num⟩)) := refHas_any r.p ⟨e.rep, e.num⟩ wk HS.out
 by_cases h0 : r.s.size = 0
 ·have e0 := K.empty_yes r.s h0
  have HC : Hid ((decide (r.s.size = 0) || (r.s.toList == e.sku.toList)) = true) := by show _ = _; rw [decide_eq_true h0, Bool.true_or]
  clear h0
  go_enter Tryz.func18, Tryz.ntmps18
  go_wp2_with fail
  clear hwk
  refine key.out.mono ?_
  rintro x w3 ⟨b, rfl, hb, b3⟩
  have HE : Hid (b = covB r e ∧ Below w.heap.size w w3) := ⟨(covB_sku HC.out hb).symm, HBK.out.trans (b3.mono HBK.out.size)⟩
  clear b3 hb l1 l2 c0 c2
  go_wp2_with fail
  go_ret
  exact ⟨by rw [HE.out.1]; rfl, HE.out.2⟩
 ·have e0 := K.empty_no r.s h0
  cases hs : (r.s.toList == e.sku.toList) with
  | true =>
   have HC : Hid ((decide (r.s.size = 0) || (r.s.toList == e.sku.toList)) = true) := by show _ = _; rw [hs, Bool.or_true]
   clear h0
   go_enter Tryz.func18, Tryz.ntmps18
   go_wp2_with fail
   clear hwk
   refine key.out.mono ?_
   rintro x w3 ⟨b, rfl, hb, b3⟩
   have HE : Hid (b = covB r e ∧ Below w.heap.size w w3) := ⟨(covB_sku HC.out hb).symm, HBK.out.trans (b3.mono HBK.out.size)⟩
   clear b3 hb l1 l2 c0 c2
   go_wp2_with fail
   go_ret
   exact ⟨by rw [HE.out.1]; rfl, HE.out.2⟩
  | false =>
   have HE : Hid (false = covB r e) := (covB_not h0 hs).symm
   clear h0 key
   go_enter Tryz.func18, Tryz.ntmps18
   go_wp2_with fail
   go_ret
   exact ⟨by rw [← HE.out]; rfl, HBK.out⟩
theorem list_ext {s u : ByteArray} (h : s.toList = u.toList) : s = u := by
 rw [ByteArray.toList_eq, ByteArray.toList_eq] at h
 exact ByteArray.ext (Array.ext' h)
theorem eqE_iff (x y : K.En) : K.eqE x y = true ↔ x = y := by
 obtain ⟨a, b, s, q⟩ := x
 obtain ⟨a', b', s', q'⟩ := y
 simp only [K.eqE, Bool.and_eq_true, beq_iff_eq, K.En.mk.injEq]
 constructor
 ·rintro ⟨⟨⟨h1, h2⟩, h3⟩, h4⟩
  exact ⟨h1, h2, list_ext h3, h4⟩
 ·rintro ⟨h1, h2, h3, h4⟩
  exact ⟨⟨⟨h1, h2⟩, by rw [h3]⟩, h4⟩
theorem below_drewB {n : Nat} {w W : World} (h : Below n w W) : Below n w W.drew := ⟨h.os, h.tape, h.output, h.size, h.block⟩
set_option maxRecDepth 100000 in
set_option maxHeartbeats 1600000 in
theorem entries08_any (ao bo : Option Addr) (n m ca cb : Nat) (L M : List K.En) (w : World) (hL : K.ESrc w ao n ca L) (hM : K.ESrc w bo m cb M) : Calls Tryz.prog 6 #[.slice ao n ca, .slice bo m cb] w fun e w' => GivesB w w' e (L = M) := by
 have HL := hide hL
 have HM := hide hM
 have hn := hL.2.2.2.2
 have hm := hM.2.2.2.2
 have HLl : Hid (L.length = n ∧ M.length = m) := ⟨hL.1, hM.1⟩
 clear hL hM
 by_cases hnm : n = m
 ·subst hnm
  go_enter Tryz.func6, Tryz.ntmps6
  go_wp2_with fail
  go_loopw [5] (fun i wr => ∃ k : Nat, k ≤ n ∧ i = .int .i64 k ∧ Hid (L.take k = M.take k ∧ Below w.heap.size w wr)) (fun i _ => n - (intOf i).toNat)
  case atStart => exact ⟨0, Nat.zero_le _, rfl, rfl, Below.refl _ _⟩
  case round =>
   obtain ⟨k, hk, rfl, HK⟩ := hrel
   rename World => wr
   by_cases hlt : k < n
   ·obtain ⟨ad, rfl, A0⟩ := (HL.out.below HK.out.2).at k hlt
    obtain ⟨bd, rfl, B0⟩ := (HM.out.below HK.out.2).at k hlt
    obtain ⟨x, Hx⟩ : ∃ x, Hid (L.getD k K.en0 = x) := ⟨_, rfl⟩
    obtain ⟨y, Hy⟩ : ∃ y, Hid (M.getD k K.en0 = y) := ⟨_, rfl⟩
    rw [Hx.out] at A0
    rw [Hy.out] at B0
    have HA := hide A0
    have HB := hide B0
    clear A0 B0
    have HTk : Hid (L.take (k + 1) = L.take k ++ [x] ∧ M.take (k + 1) = M.take k ++ [y]) := ⟨by rw [K.take_snoc L k (by have := HLl.out; omega), Hx.out], by rw [K.take_snoc M k (by have := HLl.out; omega), Hy.out]⟩
    have Hlt := hide hlt
    go_upto_region 6 with fail
    refine wp_region_held_drew (S := fun v => (K.ld28 (.pointer (some (ad.add (k * 4))))).run Tryz.prog v = .ok (K.EV x) v ∧ (K.ld28 (.pointer (some (bd.add (k * 4))))).run Tryz.prog v = .ok (K.EV y) v) (by kernel_rfl) (⟨K.run_ld28 (HA.out.on (below_drew1 wr)), K.run_ld28 (HB.out.on (below_drew1 wr))⟩) (fun hHeld => ?_)
    refine wTk 0 ⟨some 17, .move (.tmp 0), 22, "law.go:33", #[], none⟩ rfl ?_
    refine wTk 1 ⟨some 18, .move (.tmp 5), 3, "law.go:33", #[], none⟩ rfl ?_
    refine wTk 2 ⟨some 19, .indexAddr 22 (.tmp 17) (.tmp 18), 0, "law.go:33", #[⟨0, .data⟩, ⟨1, .data⟩], none⟩ rfl ?_
    refine wTk 3 ⟨some 20, .load 36 (.tmp 19), 36, "law.go:33", #[⟨2, .data⟩], none⟩ rfl ?_
    refine wTk 4 ⟨some 21, .move (.tmp 1), 22, "law.go:33", #[], none⟩ rfl ?_
    refine wTk 5 ⟨some 22, .move (.tmp 5), 3, "law.go:33", #[], none⟩ rfl ?_
    refine wTk 6 ⟨some 23, .indexAddr 22 (.tmp 21) (.tmp 22), 0, "law.go:33", #[⟨4, .data⟩, ⟨5, .data⟩], none⟩ rfl ?_
    refine wTk 7 ⟨some 24, .load 36 (.tmp 23), 36, "law.go:33", #[⟨6, .data⟩], none⟩ rfl ?_
    cases hxy : K.eqE x y with
    | false =>
     refine wTk 8 ⟨some 25, .binOp .neq 36 (.tmp 20) (.tmp 24) 36, 4, "law.go:33", #[⟨3, .data⟩, ⟨7, .data⟩], none⟩ rfl ?_
     refine wpAnyH_done (by kernel_rfl) ?_ _
     clear hHeld
     have HF : Hid (GivesB w wr.drew (.returned (.bool false)) (L = M)) := by
      refine ⟨false, rfl, ⟨(fun h => by cases h), fun h => ?_⟩, below_drewB HK.out.2⟩
      have : x = y := by rw [← Hx.out, ← Hy.out, h]
      rw [(eqE_iff x y).2 this] at hxy
      cases hxy
     clear hxy
     go_wp2_with fail
     go_ret
     exact HF.out
    | true =>
     refine wTk 8 ⟨some 25, .binOp .neq 36 (.tmp 20) (.tmp 24) 36, 4, "law.go:33", #[⟨3, .data⟩, ⟨7, .data⟩], none⟩ rfl ?_
     refine wpAnyH_done (by kernel_rfl) ?_ _
     clear hHeld
     have HE : Hid (L.take (k + 1) = M.take (k + 1)) := by show _ = _; rw [HTk.out.1, HTk.out.2, HK.out.1, (eqE_iff x y).1 hxy]
     clear hxy
     go_wp2_with fail
     go_roundw
     case rel => exact ⟨k + 1, by omega, by simp, HE.out, below_drewB HK.out.2⟩
     case measure => simp [intOf]; omega
   ·obtain rfl : k = n := by omega
    have HF : Hid (GivesB w wr (.returned (.bool true)) (L = M)) := by
     refine ⟨true, rfl, ⟨fun _ => ?_, fun _ => rfl⟩, HK.out.2⟩
     have h := HK.out.1
     rw [List.take_of_length_le (by have := HLl.out; omega), List.take_of_length_le (by have := HLl.out; omega)] at h
     exact h
    go_wp2_with fail
    go_ret
    exact HF.out
 ·have hne : ((n : Int) != (m : Int)) = true := by simp; omega
  have HF : Hid (GivesB w w (.returned (.bool false)) (L = M)) := ⟨false, rfl, ⟨(fun h => by cases h), fun h => by rw [h] at HLl; have := HLl.out; omega⟩, Below.refl _ _⟩
  go_enter Tryz.func6, Tryz.ntmps6
  go_wp2_with fail
  go_ret
  exact HF.out
end Go.Proofs.YtcnciccljblkfaaGreat

