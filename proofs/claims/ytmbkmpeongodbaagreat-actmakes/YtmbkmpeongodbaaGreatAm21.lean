/- EKd BCn -/
import Derived.Test.YtmbkmpeongodbaaGreatAm09
import Derived.Test.YtmbkmpeongodbaaGreatAm16
import Derived.Test.YtmbkmpeongodbaaGreatAm20
import Derived.Lib.MinMax
import Derived.Test.YtmbkmpeongodbaaGreatAm06
namespace Go.Proofs.YtmbkmpeongodbaaGreat
open Go.RowKit
attribute [local go_sem ↓] ldP_eq stP_eq ldJ_eq stJ_eq ldD_eq stD_eq bldD_eq run_bldD
attribute [local go_sem] zeros_JA cells_JAv zero_PC cells_PV fold_PC PC_size cells_agg
def ltD (d e : Rn) : Prop := d.lo < e.lo ∨ (d.lo = e.lo ∧ d.hi < e.hi)
structure DsI (N : Nat → List Rn) (y : Nat) (R : List Rn) (acc : List Rn) : Prop where
 rise : acc.Pairwise ltD
 has : ∀ d : Rn, d ∈ acc ↔ (0 ≤ d.lo ∧ d.lo < (y : Int) ∧ mem (N d.lo.toNat) d.hi) ∨ (d.lo = (y : Int) ∧ mem R d.hi)
theorem form_sep : ∀ {R : List Rn} {l : Int}, form l R → ∀ t, t < R.length → (∀ r ∈ R.take t, r.hi < (R.getD t rn0).lo) ∧ l ≤ (R.getD t rn0).lo ∧ (R.getD t rn0).lo ≤ (R.getD t rn0).hi ∧ (R.getD t rn0).hi ≤ 1000000000
 | [], _, _, t, h => absurd h (Nat.not_lt_zero t)
 | a :: R, l, hf, 0, _ => ⟨fun r hr => (by cases hr), hf.1, hf.2.1, hf.2.2.1⟩
 | a :: R, l, hf, t + 1, h => by
  obtain ⟨h1, h2, h3, h4⟩ := form_sep hf.2.2.2 t (by simpa using h)
  have e : (a :: R).getD (t + 1) rn0 = R.getD t rn0 := rfl
  have ha := hf.2.1
  have hb := hf.1
  rw [e]
  refine ⟨fun r hr => ?_, by omega, h3, h4⟩
  rw [List.take_succ_cons, List.mem_cons] at hr
  rcases hr with rfl | hr
  ·omega
  ·exact h1 r hr
theorem mem_snocR (R : List Rn) (lo hi n : Int) : mem (R ++ [⟨lo, hi⟩]) n ↔ mem R n ∨ (1 ≤ n ∧ n ≤ 1000000000 ∧ lo ≤ n ∧ n ≤ hi) := by
 constructor
 ·rintro ⟨h1, h2, r, hr, h3⟩
  rcases List.mem_append.1 hr with hr | hr
  ·exact .inl ⟨h1, h2, r, hr, h3⟩
  ·rw [List.mem_singleton] at hr
   subst hr
   exact .inr ⟨h1, h2, h3⟩
 ·rintro (⟨h1, h2, r, hr, h3⟩ | ⟨h1, h2, h3⟩)
  ·exact ⟨h1, h2, r, List.mem_append.2 (.inl hr), h3⟩
  ·exact ⟨h1, h2, _, List.mem_append.2 (.inr (List.mem_singleton.2 rfl)), h3⟩
theorem DsI.congr {N : Nat → List Rn} {y : Nat} {R R' : List Rn} {acc : List Rn} (h : DsI N y R acc) (e : ∀ n, mem R n ↔ mem R' n) : DsI N y R' acc := ⟨h.rise, fun d => by rw [h.has, e]⟩
theorem DsI.open {N : Nat → List Rn} {y : Nat} {R : List Rn} {acc : List Rn} (h : DsI N y R acc) (lo : Int) : DsI N y (R ++ [⟨lo, lo - 1⟩]) acc := h.congr fun n => by
 rw [mem_snocR]
 exact ⟨.inl, fun h => h.elim id fun ⟨_, _, _, _⟩ => by omega⟩
theorem DsI.step {N : Nat → List Rn} {y : Nat} {R : List Rn} {acc : List Rn} {lo z : Int} (h : DsI N y (R ++ [⟨lo, z - 1⟩]) acc) (hR : ∀ r ∈ R, r.hi < lo) (h1 : 1 ≤ z) (h2 : z ≤ 1000000000) (h3 : lo ≤ z) : DsI N y (R ++ [⟨lo, z + 1 - 1⟩]) (acc ++ [⟨(y : Int), z⟩]) := by
 refine ⟨List.pairwise_append.2 ⟨h.rise, List.pairwise_singleton _ _, fun d hd e he => ?_⟩, fun d => ?_⟩
 ·rw [List.mem_singleton] at he
  subst he
  rcases (h.has d).1 hd with ⟨-, h4, -⟩ | ⟨h4, h5⟩
  ·exact .inl h4
  ·refine .inr ⟨h4, ?_⟩
   show d.hi < z
   rcases (mem_snocR R lo (z - 1) d.hi).1 h5 with ⟨-, -, r, hr, -, h6⟩ | ⟨-, -, -, h6⟩
   ·have := hR r hr; omega
   ·omega
 ·rw [List.mem_append, h.has, List.mem_singleton, mem_snocR, mem_snocR]
  constructor
  ·rintro ((h4 | ⟨h4, h5⟩) | rfl)
   ·exact .inl h4
   ·refine .inr ⟨h4, h5.imp id fun ⟨a, b, c, d⟩ => ⟨a, b, c, by omega⟩⟩
   ·exact .inr ⟨rfl, .inr ⟨h1, h2, h3, by show z ≤ z + 1 - 1; omega⟩⟩
  ·rintro (h4 | ⟨h4, h5 | ⟨h5, h6, h7, h8⟩⟩)
   ·exact .inl (.inl h4)
   ·exact .inl (.inr ⟨h4, .inl h5⟩)
   ·by_cases e : d.hi = z
    ·right
     obtain ⟨a, b⟩ := d
     simp only at h4 e
     rw [h4, e]
    ·exact .inl (.inr ⟨h4, .inr ⟨h5, h6, h7, by omega⟩⟩)
theorem DsI.next {N : Nat → List Rn} {y : Nat} {acc : List Rn} (h : DsI N y (N y) acc) : DsI N (y + 1) [] acc := ⟨h.rise, fun d => by
 rw [h.has]
 constructor
 ·rintro (⟨h1, h2, h3⟩ | ⟨h1, h2⟩)
  ·exact .inl ⟨h1, by push_cast; omega, h3⟩
  ·exact .inl ⟨by omega, by push_cast; omega, by rw [h1]; exact h2⟩
 ·rintro (⟨h1, h2, h3⟩ | ⟨-, h⟩)
  ·by_cases e : d.lo = (y : Int)
   ·exact .inr ⟨e, by rw [e] at h3; exact h3⟩
   ·exact .inl ⟨h1, by push_cast at h2; omega, h3⟩
  ·exact absurd h (mem_nil _)⟩
def DoX (w w' : World) (x : Ending) (P : Pst) : Prop := ∃ ao n c D b, x = .returned (.tuple #[.slice ao n c, .bool b]) ∧ RSrc w' ao n c D ∧ n ≤ 300 ∧ Below w.heap.size w w' ∧ (b = true → D.Pairwise ltD ∧ ∀ d, d ∈ D ↔ dotIn P d)
def DoJ (w W : World) (ao : Option Addr) (l c : Nat) (N : Nat → List Rn) (y : Nat) (R : List Rn) : Prop := ∃ acc, acc.length = l ∧ OwnD w.heap.size w.heap.size w W ao c acc ∧ DsI N y R acc
theorem DoJ.below {w W : World} {ao : Option Addr} {l c : Nat} {N : Nat → List Rn} {y : Nat} {R : List Rn} (h : DoJ w W ao l c N y R) : Below w.heap.size w W := by
 obtain ⟨acc, -, O, -⟩ := h
 exact O.below
theorem DoJ.done {v w W : World} {ao : Option Addr} {l c : Nat} {N : Nat → List Rn} {y : Nat} {R : List Rn} {P : Pst} (h : DoJ w W ao l c N y R) (hb : Below v.heap.size v w) (hl : l ≤ 300) (b : Bool) (hP : b = true → y = 16 ∧ R = [] ∧ ∀ r, r < 16 → ∀ n, mem (N r) n ↔ mem (runsAt P r) n) : DoX v W (.returned (.tuple #[.slice ao l c, .bool b])) P := by
 obtain ⟨acc, rfl, O, hI⟩ := h
 obtain ⟨hs, -⟩ := O.src (by omega)
 refine ⟨_, _, _, acc, b, rfl, hs, hl, hb.trans (O.below.mono hb.size), fun e => ⟨hI.rise, fun d => ?_⟩⟩
 obtain ⟨rfl, rfl, hN⟩ := hP e
 rw [hI.has]
 unfold dotIn
 constructor
 ·rintro (⟨h1, h2, h3⟩ | ⟨-, h⟩)
  ·exact ⟨by unfold V.isR; simp; omega, (hN _ (by omega) _).1 h3⟩
  ·exact absurd h (mem_nil _)
 ·rintro ⟨h1, h2⟩
  have h3 : 0 ≤ d.lo ∧ d.lo < 16 := by simpa [V.isR] using h1
  exact .inl ⟨h3.1, h3.2, (hN _ (by omega) _).2 h2⟩
set_option maxRecDepth 100000 in
set_option maxHeartbeats 6400000 in
theorem dots300_any (a : Pv) (w : World) (hS : PSrc w a) : Calls Tryz.prog 19 #[PV a, .int .i64 300] w fun x w' => DoX w w' x a.P := by
 have b1 := below_new w (.cells (PC a) 26)
 have HX := hide (pbox_new w a)
 have HB := hide b1
 have HS := hide (hS.below b1)
 clear b1 hS
 obtain ⟨wk, hwk⟩ : ∃ wk, w.alloc (.cells (PC a) 26) = wk := ⟨_, rfl⟩
 obtain ⟨G, hG⟩ : ∃ G, w.heap.size = G := ⟨_, rfl⟩
 rw [hwk] at HX HB HS
 rw [hG] at HX
 have l1 := run_ldP HX.out.at
 have hmm : min (max (300 : Int) 0) 10000 = 300 := by decide
 go_enter Tryz.func19, Tryz.ntmps19
 go_wp2_with fail
 clear hwk hG l1 hmm
 refine (one_any a _ HS.out).mono ?_
 rintro e w3 ⟨T, N, rfl, hT, b3⟩
 obtain ⟨g, hg⟩ : ∃ g, w3.heap.size = g := ⟨_, rfl⟩
 have X4 := isets_new w3 105 (fun _ => si0)
 rw [hg] at X4
 have hst := run_stJ (F' := T) X4
 have X5 := ISets.setRow (F' := T) X4
 have b5 : Below w3.heap.size w3 ((w3.alloc (.cells (JA fun _ => si0) 105)).setRow g (JA T)) := below_setRow (below_new w3 _) (by omega)
 obtain ⟨w5, hw5⟩ : ∃ w5, (w3.alloc (.cells (JA fun _ => si0) 105)).setRow g (JA T) = w5 := ⟨_, rfl⟩
 rw [hw5] at hst X5 b5
 have HX5 := hide X5
 have HT : Hid (∀ r, r < 16 → V.Src w5 (T r).ao (T r).n (T r).cap (tn (N r)) ∧ form 1 (N r)) := fun r hr => ⟨(hT r hr).1.below b5, (hT r hr).2.2.1⟩
 have HNm : Hid (∀ r, r < 16 → ∀ n, mem (N r) n ↔ mem (runsAt a.P r) n) := fun r hr => (hT r hr).2.2.2
 have HB5 : Hid (Below w.heap.size w w5) := HB.out.trans ((b3.trans (b5.mono b3.size)).mono HB.out.size)
 clear X4 X5 b3 b5 hT hw5
 go_wp2_with fail
 clear hst hg
 go_loopw [7, 8] (fun v i wr => ∃ (y : Nat) (ap : Option Addr) (l c : Nat), y ≤ 16 ∧ v = .slice ap l c ∧ i = .int .i64 (y : Int) ∧ l ≤ 300 ∧ Hid (DoJ w5 wr ap l c N y [])) (fun _ i _ => 16 - (intOf i).toNat)
 case atStart => exact ⟨0, none, 0, 0, Nat.zero_le _, rfl, rfl, Nat.zero_le _, ⟨[], rfl, ⟨World.ownsRow_nil _ _ _ _, Below.refl _ _, Nat.le_refl _, Nat.le_refl _⟩, List.Pairwise.nil, fun d => ⟨fun h => (by cases h), fun h => h.elim (fun ⟨_, _, _⟩ => by omega) (fun ⟨_, h⟩ => absurd h (mem_nil _))⟩⟩⟩
 case round =>
  obtain ⟨y, ap, l, c, hy16, rfl, rfl, hl, HI⟩ := hrel
  rename World => wr
  have y0 : (0 : Int) ≤ (y : Int) := by omega
  by_cases hy : y < 16
  ·have y1 : (y : Int) < 16 := by omega
   have HF := hide (HT.out y hy).2
   have HSR := hide (HT.out y hy).1
   have HCy : Hid (∀ W, Below w5.heap.size w5 W → W.cell? ⟨g, y, none⟩ = some (.slice (T y).ao (T y).n (T y).cap)) := fun W hW => (HX5.out.below hW).cell y hy
   obtain ⟨sa, sn, sc, hf⟩ : ∃ sa sn sc, (T y).ao = sa ∧ (T y).n = sn ∧ (T y).cap = sc := ⟨_, _, _, rfl, rfl, rfl⟩
   rw [hf.1, hf.2.1, hf.2.2] at HSR HCy
   have hsn : sn = 2 * (N y).length := by
    have h1 := HSR.out.1
    rw [tn_length] at h1
    omega
   have hsb : (N y).length ≤ 500000001 := form_small (Int.le_refl _) HF.out
   obtain ⟨q, Hq⟩ : ∃ q, Hid ((N y).length = q) := ⟨_, rfl⟩
   rw [Hq.out] at hsn hsb
   have Hy := hide hy
   have HSn := hide hsn
   clear hf hsn
   go_wp2_with fail
   go_loopw [7, 9] (fun v kv wq => ∃ (t kk : Nat) (ap : Option Addr) (l c : Nat), t ≤ q ∧ v = .slice ap l c ∧ kv = .int .i64 (kk : Int) ∧ l ≤ 300 ∧ Hid (2 * t = kk) ∧ Hid (DoJ w5 wq ap l c N y ((N y).take t))) (fun _ kv _ => 2 * q + 1 - (intOf kv).toNat)
   case atStart => exact ⟨0, 0, ap, l, c, Nat.zero_le _, rfl, rfl, hl, rfl, HI⟩
   case round =>
    obtain ⟨t, kk, ap, l, c, htq, rfl, rfl, hl, Hkk, HI⟩ := hrel
    rename World => wq
    have hkb : kk ≤ 1000000002 := by have := Hkk.out; omega
    have c0 := HCy.out wq HI.out.below
    by_cases hlt : t < q
    ·have hk1 : (kk : Int) + 1 < (sn : Int) := by have := HSn.out; have := Hkk.out; omega
     have hk0 : (kk : Int) < (sn : Int) := by omega
     have hkp : (0 : Int) ≤ (kk : Int) + 1 := by omega
     obtain ⟨da, hda, qa⟩ := isrc_at HSR.out kk (by have := HSn.out; have := Hkk.out; omega)
     obtain ⟨db, hdb, qb⟩ := isrc_at HSR.out (kk + 1) (by have := HSn.out; have := Hkk.out; omega)
     have hdd : db = da := Option.some.inj (hdb.symm.trans hda)
     rw [hdd] at qb
     clear hdb hdd
     subst hda
     obtain ⟨dz, hdz, qz⟩ := isrc_at HSR.out 0 (by have := HSn.out; omega)
     obtain rfl := Option.some.inj hdz
     rw [add_zero] at qz
     have hsp := World.cell?_spot qz
     obtain ⟨db, doff, sp⟩ := da
     have hsp2 : sp = none := hsp
     subst hsp2
     rw [Addr.add_lit] at qa qb
     clear hsp hdz qz
     have htl := tn_lo (N y) t (by rw [Hq.out]; exact hlt)
     rw [Hkk.out] at htl
     have hse := form_sep HF.out t (by rw [Hq.out]; exact hlt)
     have hrun : (N y).take (t + 1) = (N y).take t ++ [(N y).getD t rn0] := by
      have h : t < (N y).length := by rw [Hq.out]; exact hlt
      rw [List.take_succ_eq_append_getElem h]; simp [List.getD, h]
     obtain ⟨rr, Hrr⟩ : ∃ rr, Hid ((N y).getD t rn0 = rr) := ⟨_, rfl⟩
     rw [Hrr.out] at htl hse hrun
     obtain ⟨x0, x1⟩ := rr
     simp only at htl hse
     rw [htl.1] at qa
     rw [htl.2] at qb
     have HSe := hide hse
     have HRun := hide hrun
     have hx0 : 1 ≤ x0 ∧ x0 ≤ x1 ∧ x1 ≤ 1000000000 := ⟨hse.2.1, hse.2.2.1, hse.2.2.2⟩
     have HQ : Hid (∀ W, Below w5.heap.size w5 W → W.cell? ⟨g, y, none⟩ = some (.slice (some ⟨db, doff, none⟩) sn sc) ∧ W.cell? ⟨db, doff + kk, none⟩ = some (.int .i64 x0) ∧ W.cell? ⟨db, doff + (kk + 1), none⟩ = some (.int .i64 (x1 + 1))) := fun W hW => ⟨HCy.out W hW, (hW.cell (World.block_lt_of_cell? _ _ qa)).trans qa, (hW.cell (World.block_lt_of_cell? _ _ qb)).trans qb⟩
     have Hlt := hide hlt
     obtain ⟨-, q0, -⟩ := HQ.out wq HI.out.below
     clear qa qb htl hse hrun
     go_wp2_with fail
     clear c0 q0
     go_loopw [7, 10] (fun v z wp => ∃ (zz : Int) (ap : Option Addr) (l c : Nat), v = .slice ap l c ∧ z = .int .i64 zz ∧ x0 ≤ zz ∧ zz ≤ x1 + 1 ∧ l ≤ 300 ∧ Hid (DoJ w5 wp ap l c N y ((N y).take t ++ [⟨x0, zz - 1⟩]))) (fun _ z _ => (1000000002 - intOf z).toNat)
     case atStart =>
      obtain ⟨acc, ha, hO, hD⟩ := HI.out
      exact ⟨x0, ap, l, c, rfl, rfl, Int.le_refl _, by omega, hl, acc, ha, hO, hD.open x0⟩
     case round =>
      obtain ⟨zz, ap, l, c, rfl, rfl, hz0, hz1, hl, HI⟩ := hrel
      rename World => wp
      obtain ⟨d0, -, d1⟩ := HQ.out wp HI.out.below
      by_cases hzx : zz < x1 + 1
      ·by_cases hl12 : l = 300
       ·have hle : ((l : Int) == 300) = true := by simp [hl12]
        have HE := hide (HI.out.done (P := a.P) HB5.out hl false (fun h => by cases h))
        go_wp2_with fail
        go_ret2
        exact HE.out
       ·have hle : ((l : Int) == 300) = false := by simp; omega
        obtain ⟨acc, hacc, O, hD⟩ := HI.out
        have HO := hide O
        have Hacc := hide hacc
        have HDs := hide (hD.step HSe.out.1 (by omega) (by omega) hz0)
        clear O hacc hD
        go_wp2_with (at_builtin; go_loud (refine (HO.out.later (below_new wp _)).appendS [⟨(y : Int), zz⟩] (some ⟨wp.heap.size, 0, none⟩) 1 1 (lit_rsrc wp [⟨(y : Int), zz⟩] _ rfl 44 1 rfl (by omega)) (by have := Hacc.out; omega) rfl (.tmp 54) (.tmp 58) rfl l Hacc.out rfl rfl ?_); intro ao8 c8 w8 O8; have HO8 := hide O8; clear O8)
        clear d0 d1
        go_roundw
        case rel => exact ⟨zz + 1, ao8, l + 1, c8, rfl, rfl, by omega, by omega, by omega, ⟨_, by rw [List.length_append, Hacc.out]; rfl, HO8.out, HDs.out⟩⟩
        case measure => simp [intOf]; omega
      ·obtain rfl : zz = x1 + 1 := by omega
       have HIz : Hid (DoJ w5 wp ap l c N y ((N y).take (t + 1))) := by
        have h := HI.out
        rw [show x1 + 1 - 1 = x1 by omega] at h
        rw [HRun.out]
        exact h
       go_wp2_with fail
       clear d0 d1
       go_roundw
       case rel => exact ⟨t + 1, kk + 2, ap, l, c, Hlt.out, rfl, by simp, hl, (by have := Hkk.out; show 2 * (t + 1) = kk + 2; omega), HIz⟩
       case measure => simp [intOf]; have := Hlt.out; have := Hkk.out; omega
    ·have hk1 : ¬ (kk : Int) + 1 < (sn : Int) := by have := HSn.out; have := Hkk.out; omega
     have HIz : Hid (DoJ w5 wq ap l c N (y + 1) []) := by
      obtain ⟨acc, ha, hO, hD⟩ := HI.out
      rw [List.take_of_length_le (by rw [Hq.out]; omega)] at hD
      exact ⟨acc, ha, hO, hD.next⟩
     go_wp2_with fail
     clear c0
     go_roundw
     case rel => exact ⟨y + 1, ap, l, c, Hy.out, rfl, by simp, hl, HIz⟩
     case measure => simp [intOf]; have := Hy.out; omega
  ·have y1 : ¬ (y : Int) < 16 := by omega
   obtain rfl : y = 16 := by omega
   have HE := hide (HI.out.done (P := a.P) HB5.out hl true (fun _ => ⟨rfl, rfl, HNm.out⟩))
   go_wp2_with fail
   go_ret2
   exact HE.out
end Go.Proofs.YtmbkmpeongodbaaGreat
namespace Go.Proofs.YtmbkmpeongodbaaGreat
open Go.RowKit
end Go.Proofs.YtmbkmpeongodbaaGreat
