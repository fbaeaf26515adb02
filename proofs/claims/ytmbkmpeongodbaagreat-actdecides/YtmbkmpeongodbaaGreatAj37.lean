/- EJm EIp EJf EJe -/
import Derived.Test.YtmbkmpeongodbaaGreatTk
import Derived.Test.YtmbkmpeongodbaaGreatAj36
import Derived.Test.YtmbkmpeongodbaaGreatAj29
import Derived.Deep.CutRange
import Derived.Test.YtmbkmpeongodbaaGreatAj27
import Derived.Test.YtmbkmpeongodbaaGreatAj26
import Derived.Test.YtmbkmpeongodbaaGreatAj35
import Derived.Test.YtmbkmpeongodbaaGreatAj31
import Derived.Test.YtmbkmpeongodbaaGreatAj32
import Derived.Test.YtmbkmpeongodbaaGreatAj34
namespace Go.Proofs.YtmbkmpeongodbaaGreat
open Go.RowKit
attribute [local go_sem ↓] ldP_eq stP_eq ldAc_eq stAc_eq ldLm_eq stLm_eq
attribute [local go_sem] cells_PV PC_size cells_AcV AcC_size cells_LmV LmC_size
theorem sm_all (L : List K.En) (s : ByteArray) : L.filter (smB s (-1)) = flS L s := by
 unfold flS
 refine List.filter_congr fun e _ => ?_
 unfold smB K.eqS
 rw [decide_eq_true (by decide : (-1 : Int) < 0), Bool.true_or, Bool.and_true]
def LmD (L : List K.En) (ln k : Int) (s : ByteArray) (q z : Int) : Prop := (FullF L (flS L s) ln ∧ z = 12) ∨ (¬ FullF L (flS L s) ln ∧ k = 2 ∧ 1000000 < K.ttl (flS L s) + q ∧ z = 13) ∨ (¬ FullF L (flS L s) ln ∧ ¬ (k = 2 ∧ 1000000 < K.ttl (flS L s) + q) ∧ z = 0)
set_option maxRecDepth 100000 in
set_option maxHeartbeats 3200000 in
theorem refLimits_any (ao : Option Addr) (n cap : Nat) (L : List K.En) (ln ct k : Int) (s : ByteArray) (q : Int) (a : Pv) (w : World) (hS : K.ESrc w ao n cap L) (hc : K.chk L = 0) (hq : 1 ≤ q ∧ q ≤ 1000000) :
  Calls Tryz.prog 27 #[.slice ao n cap, LmV ⟨ln, ct⟩, AcV (mkA k s q a)] w fun e w' => ∃ z, e = .returned (.int .i64 z) ∧ LmD L ln k s q z ∧ Below w.heap.size w w' := by
 have b1 := below_new w (.cells (LmC ⟨ln, ct⟩) 28)
 have b2 := below_new (w.alloc (.cells (LmC ⟨ln, ct⟩) 28)) (.cells (AcC (mkA k s q a)) 30)
 have X2 := AcBox_new (w.alloc (.cells (LmC ⟨ln, ct⟩) 28)) (mkA k s q a)
 rw [World.size_alloc] at X2
 have HX := hide ((LmBox_new w ⟨ln, ct⟩).below b2)
 have HXa := hide X2
 have HBK := hide (b1.trans (b2.mono b1.size))
 have HS := hide (hS.below HBK.out)
 have HC := hide hc
 have HQ := hide hq
 clear b1 b2 X2 hS hc hq
 obtain ⟨wk, hwk⟩ : ∃ wk, (w.alloc (.cells (LmC ⟨ln, ct⟩) 28)).alloc (.cells (AcC (mkA k s q a)) 30) = wk := ⟨_, rfl⟩
 obtain ⟨G, hG⟩ : ∃ G, w.heap.size = G := ⟨_, rfl⟩
 rw [hwk] at HX HXa HBK HS
 rw [hG] at HX HXa
 obtain ⟨-, l1, -⟩ := HXa.out.k
 go_enter Tryz.func27, Tryz.ntmps27
 go_wp2_with fail
 clear hwk hG l1
 refine (refSum8_any ao n cap L s (-1) _ HS.out HC.out).mono ?_
 rw [sm_all]
 rintro e w1 ⟨rfl, b1⟩
 have HB1 := hide b1
 have HS1 := hide (HS.out.below b1)
 clear b1
 have HTb := hide (ttl_few (L := flS L s) (filter_chkE HC.out))
 obtain ⟨T, HT⟩ : ∃ T, Hid (K.ttl (flS L s) = T) := ⟨_, rfl⟩
 obtain ⟨m, Hm⟩ : ∃ m, Hid ((flS L s).length = m) := ⟨_, rfl⟩
 have htb := HTb.out
 have hqb := HQ.out
 rw [HT.out] at htb
 rw [HT.out, Hm.out]
 have hw : IntKind.i64.wrap (T + q) = T + q := wrap_few (by omega) (by omega)
 clear htb hqb
 by_cases hm0 : m = 0
 ·have HO : Hid (flS L s = []) := List.length_eq_zero_iff.1 (by rw [Hm.out]; exact hm0)
  subst hm0
  go_upto_region 2 with fail
  have HB2 := hide (HB1.out.trans ((below_drew1 w1).mono HB1.out.size))
  have HS2 := hide (HS1.out.below (below_drew1 w1))
  refine wp_region_held_drew (S := fun v => v.cell? ⟨G, 0, none⟩ = some (.int .i64 ln)) (by kernel_rfl) ((HX.out.below HB2.out).c0) (fun hHeld => ?_)
  refine wTk 0 ⟨some 16, .move (.tmp 8), 3, "ref.go:125", #[], none⟩ rfl ?_
  refine wTk 1 ⟨some 17, .binOp .eql 3 (.tmp 16) (.const (.int .i64 0)) 3, 4, "ref.go:125", #[⟨0, .data⟩], none⟩ rfl ?_
  refine wTk 2 ⟨some 18, .move (.tmp 17), 4, "ref.go:125", #[⟨1, .data⟩], none⟩ rfl ?_
  refine wTk 3 ⟨some 19, .move (.tmp 0), 22, "ref.go:125", #[⟨2, .guard⟩], some (2, true)⟩ rfl ?_
  refine wTk 5 ⟨some 21, .fieldAddr 28 (.tmp 4) 0, 0, "ref.go:125", #[⟨2, .guard⟩], some (2, true)⟩ rfl ?_
  refine wTk 6 ⟨some 22, .load 3 (.tmp 21), 3, "ref.go:125", #[⟨5, .data⟩, ⟨2, .guard⟩], some (2, true)⟩ rfl ?_
  refine wpAnyH_ready (rs := [4]) (by kernel_rfl) (by simp) (.cons rfl (fun K hK => ?_) .nil)
  go_simp
  go_wp2_with fail
  refine (refLines8_any ao n cap L _ HS2.out HC.out).mono ?_
  rintro e w3 ⟨N, rfl, hN, b3⟩
  have HB3 := hide (HB2.out.trans (b3.mono HB2.out.size))
  have HFl := hide (lnn_full (ln := ln) hN HO.out)
  refine hK.out _ _ (HX.out.below HB3.out).c0 (fun hHeld => ?_)
  clear hK K hN b3
  by_cases hle : ln ≤ (N : Int)
  ·have HY := hide (HFl.out.2 hle)
   refine wTk 7 ⟨some 23, .binOp .geq 3 (.tmp 20) (.tmp 22) 3, 4, "ref.go:125", #[⟨4, .data⟩, ⟨6, .data⟩, ⟨2, .guard⟩], some (2, true)⟩ rfl ?_
   refine wTk 8 ⟨some 24, .pick (.tmp 18) (.tmp 23) (.const (.bool false)), 4, "ref.go:125", #[⟨2, .data⟩, ⟨7, .data⟩], none⟩ rfl ?_
   refine wpAnyH_done (by kernel_rfl) ?_ _
   clear hHeld
   have HE : Hid (LmD L ln k s q 12) := .inl ⟨HY.out, rfl⟩
   have HBf := hide (HBK.out.trans (HB3.out.mono HBK.out.size))
   go_wp2_with fail
   go_ret
   exact ⟨_, rfl, HE.out, HBf.out⟩
  ·have HNF : Hid (¬ FullF L (flS L s) ln) := fun h => hle (HFl.out.1 h)
   refine wTk 7 ⟨some 23, .binOp .geq 3 (.tmp 20) (.tmp 22) 3, 4, "ref.go:125", #[⟨4, .data⟩, ⟨6, .data⟩, ⟨2, .guard⟩], some (2, true)⟩ rfl ?_
   refine wTk 8 ⟨some 24, .pick (.tmp 18) (.tmp 23) (.const (.bool false)), 4, "ref.go:125", #[⟨2, .data⟩, ⟨7, .data⟩], none⟩ rfl ?_
   refine wpAnyH_done (by kernel_rfl) ?_ _
   clear hHeld
   have HBf := hide (HBK.out.trans (HB3.out.mono HBK.out.size))
   obtain ⟨k0, -, k2⟩ := (HXa.out.below HB3.out).k
   by_cases hk : k = 2
   ·subst hk
    by_cases hov : 1000000 < T + q
    ·have HE : Hid (LmD L ln 2 s q 13) := .inr (.inl ⟨HNF.out, rfl, by rw [HT.out]; exact hov, rfl⟩)
     go_wp2_with fail
     go_ret
     exact ⟨_, rfl, HE.out, HBf.out⟩
    ·have HE : Hid (LmD L ln 2 s q 0) := .inr (.inr ⟨HNF.out, fun h => hov (by rw [← HT.out]; exact h.2), rfl⟩)
     go_wp2_with fail
     go_ret
     exact ⟨_, rfl, HE.out, HBf.out⟩
   ·have hk2 : (k == 2) = false := by simp [hk]
    have HE : Hid (LmD L ln k s q 0) := .inr (.inr ⟨HNF.out, fun h => hk h.1, rfl⟩)
    go_wp2_with fail
    go_ret
    exact ⟨_, rfl, HE.out, HBf.out⟩
 ·have hm0' : ((m : Int) == 0) = false := by simp [hm0]
  have hm0'' : (m == 0) = false := by simp [hm0]
  have HNF : Hid (¬ FullF L (flS L s) ln) := fun h => by
   have := Hm.out
   rw [h.1] at this
   simp at this
   omega
  go_upto_region 2 with fail
  have HB2 := hide (HB1.out.trans ((below_drew1 w1).mono HB1.out.size))
  refine wp_region_held_drew (S := fun v => v.cell? ⟨G, 0, none⟩ = some (.int .i64 ln)) (by kernel_rfl) ((HX.out.below HB2.out).c0) (fun hHeld => ?_)
  refine wTk 0 ⟨some 16, .move (.tmp 8), 3, "ref.go:125", #[], none⟩ rfl ?_
  refine wTk 1 ⟨some 17, .binOp .eql 3 (.tmp 16) (.const (.int .i64 0)) 3, 4, "ref.go:125", #[⟨0, .data⟩], none⟩ rfl ?_
  refine wTk 2 ⟨some 18, .move (.tmp 17), 4, "ref.go:125", #[⟨1, .data⟩], none⟩ rfl ?_
  refine wSk 3 ⟨some 19, .move (.tmp 0), 22, "ref.go:125", #[⟨2, .guard⟩], some (2, true)⟩ rfl ?_
  refine wSk 4 ⟨some 20, .call ⟨.value (.func 64), #[.tmp 19], #[22]⟩, 3, "ref.go:125", #[⟨3, .data⟩, ⟨2, .chain⟩, ⟨2, .guard⟩], some (2, true)⟩ rfl ?_
  refine wSk 5 ⟨some 21, .fieldAddr 28 (.tmp 4) 0, 0, "ref.go:125", #[⟨2, .guard⟩], some (2, true)⟩ rfl ?_
  refine wSk 6 ⟨some 22, .load 3 (.tmp 21), 3, "ref.go:125", #[⟨5, .data⟩, ⟨2, .guard⟩], some (2, true)⟩ rfl ?_
  refine wSk 7 ⟨some 23, .binOp .geq 3 (.tmp 20) (.tmp 22) 3, 4, "ref.go:125", #[⟨4, .data⟩, ⟨6, .data⟩, ⟨2, .guard⟩], some (2, true)⟩ rfl ?_
  refine wTk 8 ⟨some 24, .pick (.tmp 18) (.tmp 23) (.const (.bool false)), 4, "ref.go:125", #[⟨2, .data⟩, ⟨7, .data⟩], none⟩ rfl ?_
  refine wpAnyH_done (by kernel_rfl) ?_ _
  clear hHeld
  have HBf := hide (HBK.out.trans (HB2.out.mono HBK.out.size))
  obtain ⟨k0, -, k2⟩ := (HXa.out.below HB2.out).k
  by_cases hk : k = 2
  ·subst hk
   by_cases hov : 1000000 < T + q
   ·have HE : Hid (LmD L ln 2 s q 13) := .inr (.inl ⟨HNF.out, rfl, by rw [HT.out]; exact hov, rfl⟩)
    go_wp2_with fail
    go_ret
    exact ⟨_, rfl, HE.out, HBf.out⟩
   ·have HE : Hid (LmD L ln 2 s q 0) := .inr (.inr ⟨HNF.out, fun h => hov (by rw [← HT.out]; exact h.2), rfl⟩)
    go_wp2_with fail
    go_ret
    exact ⟨_, rfl, HE.out, HBf.out⟩
  ·have hk2 : (k == 2) = false := by simp [hk]
   have HE : Hid (LmD L ln k s q 0) := .inr (.inr ⟨HNF.out, fun h => hk h.1, rfl⟩)
   go_wp2_with fail
   go_ret
   exact ⟨_, rfl, HE.out, HBf.out⟩
end Go.Proofs.YtmbkmpeongodbaaGreat
namespace Go.Proofs.YtmbkmpeongodbaaGreat
open Go.RowKit
theorem inB_dotsE {L : List K.En} {P : Pst} (h : CanonOf (dotsG (L.map dotOf)) P) (e : K.En) : inB P e = true ↔ okD (dotOf e) = true ∧ ∃ x ∈ L, dotOf x = dotOf e := by
 rw [inB_iff]
 unfold dotIn
 constructor
 ·rintro ⟨h1, h2⟩
  have h3 : 0 ≤ e.rep ∧ e.rep < 16 := by simpa [V.isR] using h1
  rw [canon_mem h _ (by show e.rep.toNat < 16; omega), dotsG_mem] at h2
  obtain ⟨d, hd, k1, k2, k3⟩ := h2
  obtain ⟨x, hx, rfl⟩ := List.mem_map.1 hd
  have ed : dotOf x = dotOf e := by
   unfold dotOf at k2 k3 ⊢
   simp only at k2 k3
   congr 1
   omega
  exact ⟨ed ▸ k1, x, hx, ed⟩
 ·rintro ⟨h1, x, hx, h2⟩
  have h3 := h1
  unfold okD dotOf at h3
  simp only [Bool.and_eq_true, decide_eq_true_eq] at h3
  have h4 : 0 ≤ e.rep ∧ e.rep < 16 := by simpa [V.isR] using h3.1
  refine ⟨h3.1, ?_⟩
  rw [canon_mem h _ (by show e.rep.toNat < 16; omega), dotsG_mem]
  exact ⟨dotOf x, List.mem_map.2 ⟨x, hx, rfl⟩, h2 ▸ h1, by rw [h2]; unfold dotOf; simp only; omega, by rw [h2]; rfl⟩
theorem asc_one (e : K.En) : K.Asc [e] := List.pairwise_singleton _ _
theorem gone_mem {L O : List K.En} {P : Pst} (hL : K.chk L = 0) (hO : ∀ x ∈ O, x ∈ L) (hC : CanonOf (dotsG (O.map dotOf)) P) {x : K.En} (hx : x ∈ L) : inB P x = true ↔ x ∈ O := by
 rw [inB_dotsE hC]
 constructor
 ·rintro ⟨-, y, hy, e⟩
  rw [← dot_one hL (hO y hy) hx e]; exact hy
 ·intro h
  exact ⟨ce_dot (chk_ce hL x hx), x, h, rfl⟩
theorem most_ex (A : List Rn) : ∀ b : Nat, (∀ n, mem A n → 1 ≤ n ∧ n ≤ (b : Int)) → ∃ k, Most A k
 | 0, h => ⟨0, .inl ⟨rfl, fun n hn => by have := h n hn; omega⟩⟩
 | b + 1, h => by
  by_cases hb : mem A ((b : Int) + 1)
  ·exact ⟨(b : Int) + 1, .inr ⟨hb, fun n hn => by have := h n hn; omega⟩⟩
  ·refine most_ex A b fun n hn => ?_
   have h1 := h n hn
   by_cases e : n = (b : Int) + 1
   ·rw [e] at hn; exact absurd hn hb
   ·omega
theorem last_ex (P : Pst) (r : Int) (hr : RepOk r) : ∃ k, LastOf P r k := by
 have h16 : r.toNat < 16 := by have := hr.1; have := hr.2; omega
 obtain ⟨k, hk⟩ := most_ex (runsAt P r.toNat) 1000000000 fun n hn => by
  have := (mem_runs P r.toNat h16 n).1 hn
  exact ⟨this.1, by simpa using this.2.1⟩
 exact ⟨k, .inl ⟨by unfold V.isR; have := hr.1; have := hr.2; simp; omega, hk⟩⟩
theorem nx_new {P : Pst} {r ct : Int} {d : Rn} (h : NxF P r ct d 0) : RepOk r ∧ d.lo = r ∧ 1 ≤ d.hi ∧ d.hi ≤ 1000000000 ∧ ∀ e : K.En, e.rep = r → inB P e = true → e.num < d.hi := by
 rcases h with ⟨-, -, h⟩ | ⟨-, ⟨-, -, h⟩ | ⟨hr, k, hk, ⟨-, -, h⟩ | ⟨hlt, rfl, -⟩⟩⟩
 ·exact absurd h (by decide)
 ·exact absurd h (by decide)
 ·exact absurd h (by decide)
 have hr2 : 0 ≤ r ∧ r < 16 := by simpa [V.isR] using hr
 rcases hk with ⟨-, hm⟩ | ⟨hf, -⟩
 rotate_left
 ·rw [hr] at hf; cases hf
 have hb := hm.bd
 refine ⟨hr2, rfl, by show 1 ≤ k + 1; omega, by show k + 1 ≤ _; omega, fun e he hin => ?_⟩
 rw [inB_iff] at hin
 have h2 := hin.2
 show e.num < k + 1
 have h3 : mem (runsAt P r.toNat) e.num := by rw [← he]; exact h2
 rcases hm with ⟨-, hn⟩ | ⟨-, hn⟩
 ·exact absurd h3 (hn _)
 ·have := hn _ h3; omega
theorem ce_of {e : K.En} (h1 : RepOk e.rep) (h2 : 1 ≤ e.num ∧ e.num ≤ 1000000000) (h3 : K.good e.sku.data.toList = true) (h4 : 1 ≤ e.qty ∧ e.qty ≤ 1000000) : K.ceE e = 0 := by
 have hr : K.isR e.rep = true := by unfold K.isR; have := h1.1; have := h1.2; simp; omega
 unfold K.ceE
 rw [hr, h3, if_neg (by decide), if_neg (by omega), if_neg (by decide), if_neg (by omega)]
theorem ev_add {L O : List K.En} {P : Pst} {f : Fc} {e1 : K.En} {r ct : Int} {d : Rn} (hS : SeenAll L P) (hO : ∀ x ∈ O, x ∈ L) (hn : NxF P r ct d 0) (he : f.es = [e1]) (hd : e1.rep = d.lo ∧ e1.num = d.hi) (hc : K.ceE e1 = 0) (hC : CanonOf (dotsG (O.map dotOf)) f.p.P) (hr : f.rs = []) (hl : f.es.length = f.an) (hm : f.rs.length = f.rn) : EvOf f 0 ∧ ¬ EfC L f := by
 obtain ⟨hr2, h1, h2, h3, h4⟩ := nx_new hn
 have han : f.an = 1 := by rw [← hl, he]; rfl
 have hrn : f.rn = 0 := by rw [← hm, hr]; rfl
 have hck : K.chk f.es = 0 := by rw [he]; exact K.chk_asc (asc_one e1) (fun e h => by rw [List.mem_singleton.1 h]; exact hc)
 refine ⟨.inr (.inr ⟨⟨(ok_chk hl).1 hck, chain_of_canon hC, ?_⟩, .inr (.inl ⟨han, hrn, ?_⟩), rfl⟩), ?_⟩
 ·rw [hrn]; exact okR_zero _
 ·have e0 : f.es.getD 0 K.en0 = e1 := by rw [he]; rfl
  rw [e0]
  obtain ⟨k, hk⟩ := last_ex f.p.P e1.rep (by rw [hd.1, h1]; exact hr2)
  refine ⟨k, hk, ?_⟩
  rcases hk with ⟨hr3, hk | ⟨hk, -⟩⟩ | ⟨-, hk⟩
  ·rw [hk.1, hd.2]; omega
  ·have hin : inB f.p.P ⟨e1.rep, k, ⟨#[]⟩, 0⟩ = true := by rw [inB_iff]; exact ⟨hr3, hk⟩
   rw [inB_dotsE hC] at hin
   obtain ⟨-, y, hy, ey⟩ := hin
   have ey1 : y.rep = e1.rep := congrArg Rn.lo ey
   have ey2 : y.num = k := congrArg Rn.hi ey
   have := h4 y (by rw [ey1, hd.1, h1]) (hS.2.2 y (hO y hy))
   rw [hd.2]; omega
  ·rw [hk, hd.2]; omega
 ·rintro ⟨a, ha, y, hy, hs⟩
  rw [he, List.mem_singleton] at ha
  subst ha
  unfold K.sameDot at hs
  simp only [Bool.and_eq_true, beq_iff_eq] at hs
  have := h4 y (by rw [hs.1, hd.1, h1]) (hS.2.2 y hy)
  rw [hs.2, hd.2] at this
  omega
theorem ev_none {L : List K.En} {f : Fc} (he : f.es = []) (hl : f.es.length = f.an) (hI : InForm f.p.P) (hR : OkR f.rs f.rn) (h1 : f.rn = 0 ∨ (f.rn = 1 ∧ EmptyP f.p.P)) : EvOf f 0 ∧ ¬ EfC L f := by
 have han : f.an = 0 := by rw [← hl, he]; rfl
 refine ⟨.inr (.inr ⟨⟨(ok_chk hl).1 (by rw [he]; decide), hI, hR⟩, ?_, rfl⟩), ?_⟩
 ·rcases h1 with h | ⟨h, h2⟩
  ·exact .inl ⟨han, h⟩
  ·exact .inr (.inr ⟨han, h, h2⟩)
 ·rintro ⟨a, ha, -⟩
  rw [he] at ha
  cases ha
theorem ttl_part (L : List K.En) (p q : K.En → Bool) : K.ttl (L.filter p) = K.ttl (L.filter (fun e => q e && p e)) + K.ttl (L.filter (fun e => !q e && p e)) := by
 induction L with
 | nil => rfl
 | cons a L ih =>
  rw [List.filter_cons, List.filter_cons, List.filter_cons]
  cases hp : p a <;> cases hq : q a <;> simp only [Bool.and_true, Bool.and_false, Bool.not_true, Bool.not_false, if_true, if_false, Bool.false_eq_true, K.ttl] <;> omega
theorem flS_mem {L : List K.En} {s : ByteArray} {x : K.En} : x ∈ flS L s ↔ x ∈ L ∧ K.eqS x.sku s = true := List.mem_filter
theorem flO_mem {L : List K.En} {r : Int} {s : ByteArray} {x : K.En} : x ∈ flO L r s ↔ x ∈ L ∧ (x.rep == r && K.eqS x.sku s) = true := List.mem_filter
end Go.Proofs.YtmbkmpeongodbaaGreat
namespace Go.Proofs.YtmbkmpeongodbaaGreat
open Go.RowKit
variable {w w' w2 W W' : World} {g : Nat}
theorem set_heapF (w : World) (g : Nat) (cs : Array Value) (t : TypeId) (f : Nat × Nat) (j : Nat) (v : Value) (h : w.heap[g]? = some (.cells cs t f)) : (w.setCell ⟨g, j, none⟩ v).heap[g]? = some (.cells (cs.setIfInBounds j v) t f) := by
 simp [World.setCell, h, Array.getElem?_modify, Array.setIfInBounds]
theorem set_otherF (w : World) (g j k : Nat) (v : Value) (hk : k ≠ g) : (w.setCell ⟨g, j, none⟩ v).heap[k]? = w.heap[k]? := by
 unfold World.setCell
 simp only
 split <;> simp [Array.getElem?_modify, Ne.symm hk]
structure Ch (g : Nat) (W W' : World) : Prop where
 oth : ∀ k, k ≠ g → W'.heap[k]? = W.heap[k]?
 low : ∀ n w0, n ≤ g → Below n w0 W → Below n w0 W'
 siz : W'.heap.size = W.heap.size
theorem Ch.set (w : World) (g j : Nat) (v : Value) : Ch g w (w.setCell ⟨g, j, none⟩ v) :=
 ⟨fun k hk => set_otherF w g j k v hk, fun n w0 hn h => h.trans ⟨rfl, rfl, rfl, by simp, fun k hk => set_otherF w g j k v (by omega)⟩, by simp⟩
theorem Ch.trans (h : Ch g w w') (h' : Ch g w' w2) : Ch g w w2 := ⟨fun k hk => (h'.oth k hk).trans (h.oth k hk), fun n w0 hn hb => h'.low n w0 hn (h.low n w0 hn hb), h'.siz.trans h.siz⟩
theorem FaBox.fz {m : FacV} (h : FaBox w g m) (j : Nat) : w.frozen? ⟨g, j, none⟩ = false := by unfold FaBox at h; simp [World.frozen?, h]
theorem szPast : (Tryz.prog.info? 26).map (·.size) = some 2 := by kernel_rfl
theorem run_stPF {f : Fc} (p : Pv) (A : FaBox w g (mkF f)) : ∃ w', (stP (.pointer (some ⟨g, 1, none⟩)) (PV p)).run Tryz.prog w = .ok () w' ∧ FaBox w' g (mkF ⟨f.ao, f.an, f.ac, f.es, p, f.ro, f.rn, f.rc, f.rs⟩) ∧ Ch g w w' := by
 have ht : w.there g 1 (PC p).size := fun j hj => by
  have hj : j < 2 := hj
  refine ⟨?_, A.fz _⟩
  rcases (show j = 0 ∨ j = 1 by omega) with rfl | rfl
  ·rw [Nat.add_zero, A.c1]; rfl
  ·rw [show 1 + 1 = 2 from rfl, A.c2]; rfl
 refine ⟨_, run_storeAt_mid (P := Tryz.prog) w g 1 26 (PC p) ht szPast (by simp [PC, Value.oneCell']), ?_, ?_⟩
 ·exact set_heapF _ g _ _ _ 2 _ (set_heapF w g _ _ _ 1 _ A)
 ·exact (Ch.set w g 1 _).trans (Ch.set _ g 2 _)
theorem FaBox.set0 {f : Fc} (A : FaBox w g (mkF f)) (a : Option Addr) (n c : Nat) (E : List K.En) : FaBox (w.setCell ⟨g, 0, none⟩ (.slice a n c)) g (mkF ⟨a, n, c, E, f.p, f.ro, f.rn, f.rc, f.rs⟩) := set_heapF w g _ _ _ 0 _ A
theorem FaBox.set3 {f : Fc} (A : FaBox w g (mkF f)) (a : Option Addr) (n c : Nat) (E : List Rc) : FaBox (w.setCell ⟨g, 3, none⟩ (.slice a n c)) g (mkF ⟨f.ao, f.an, f.ac, f.es, f.p, a, n, c, E⟩) := set_heapF w g _ _ _ 3 _ A
theorem refEntries8_any (ao : Option Addr) (n cap : Nat) (L : List K.En) (w : World) (hS : K.ESrc w ao n cap L) : Calls Tryz.prog 22 #[.slice ao n cap] w fun e w' => e = .returned (.bool (K.okN L n)) ∧ Below w.heap.size w w' := K.refEntries_any ao n cap L w hS
theorem ds_all (L : List K.En) : L.filter (dsB ⟨#[]⟩ (-1)) = L := List.filter_eq_self.2 fun e _ => by
 unfold dsB
 rw [decide_eq_true (by decide : (-1 : Int) < 0)]
 rfl
theorem size_pos {s : ByteArray} (h : K.good s.data.toList = true) : ¬ s.size = 0 := fun e => by
 have h1 : s.data.toList = [] := List.eq_nil_of_length_eq_zero (by rw [Array.length_toList]; exact e)
 rw [h1] at h
 revert h
 decide +kernel
theorem ds_sku {s : ByteArray} (h : K.good s.data.toList = true) (L : List K.En) : L.filter (dsB s (-1)) = flS L s := by
 unfold flS
 refine List.filter_congr fun e _ => ?_
 unfold dsB K.eqS
 rw [decide_eq_true (by decide : (-1 : Int) < 0), decide_eq_false (size_pos h), Bool.true_or, Bool.and_true, Bool.false_or]
theorem ds_own {s : ByteArray} (h : K.good s.data.toList = true) {r : Int} (hr : RepOk r) (L : List K.En) : L.filter (dsB s r) = flO L r s := by
 unfold flO
 refine List.filter_congr fun e _ => ?_
 have : ¬ r < 0 := by have := hr.1; omega
 unfold dsB K.eqS
 rw [decide_eq_false this, decide_eq_false (size_pos h), Bool.false_or, Bool.false_or, Bool.and_comm]
theorem sm_own {s : ByteArray} {r : Int} (hr : RepOk r) (L : List K.En) : L.filter (smB s r) = flO L r s := by
 unfold flO
 refine List.filter_congr fun e _ => ?_
 have : ¬ r < 0 := by have := hr.1; omega
 unfold smB K.eqS
 rw [decide_eq_false this, Bool.false_or, Bool.and_comm]
theorem within_seen {L : List K.En} {D P : Pst} (hL : K.chk L = 0) (hC : CanonOf (dotsG (L.map dotOf)) D) : (∀ r, r < 16 → ∀ n, mem (runsAt D r) n → mem (runsAt P r) n) ↔ ∀ e ∈ L, inB P e = true := by
 constructor
 ·intro h e he
  have h1 : inB D e = true := (gone_mem hL (fun x hx => hx) hC he).2 he
  rw [inB_iff] at h1 ⊢
  have h2 : 0 ≤ e.rep ∧ e.rep < 16 := by simpa [V.isR] using h1.1
  exact ⟨h1.1, h _ (by show e.rep.toNat < 16; omega) _ h1.2⟩
 ·intro h r hr n hm
  have h1 : inB D ⟨(r : Int), n, ⟨#[]⟩, 0⟩ = true := by
   rw [inB_iff]
   exact ⟨by unfold V.isR; simp; omega, by simpa using hm⟩
  rw [inB_dotsE hC] at h1
  obtain ⟨-, y, hy, ey⟩ := h1
  have h2 := h y hy
  rw [inB_iff] at h2
  have e1 : y.rep = (r : Int) := congrArg Rn.lo ey
  have e2 : y.num = n := congrArg Rn.hi ey
  have h3 := h2.2
  rw [e1, e2] at h3
  simpa using h3
theorem gone_empty {O : List K.En} {L : List K.En} {P : Pst} (hL : K.chk L = 0) (hO : ∀ x ∈ O, x ∈ L) (hC : CanonOf (dotsG (O.map dotOf)) P) : EmptyP P ↔ O = [] := by
 constructor
 ·intro h
  refine List.eq_nil_iff_forall_not_mem.2 fun x hx => ?_
  have h1 := (gone_mem hL hO hC (hO x hx)).2 hx
  rw [inB_iff] at h1
  have h2 : 0 ≤ x.rep ∧ x.rep < 16 := by simpa [V.isR] using h1.1
  exact h _ (by show x.rep.toNat < 16; omega) _ h1.2
 ·rintro rfl r hr n hm
  rw [canon_mem hC r hr n] at hm
  exact mem_nil n hm
end Go.Proofs.YtmbkmpeongodbaaGreat
namespace Go.Proofs.YtmbkmpeongodbaaGreat
open Go.RowKit
attribute [local go_sem ↓] ldP_eq stP_eq ldFa_eq stFa_eq ldAc_eq stAc_eq ldLm_eq stLm_eq ldD_eq stD_eq ldRe_eq stRe_eq bldF_eq bldE_eq bldR_eq bsE_eq bsR_eq
attribute [local go_sem] zero_PC cells_PV PC_size cells_FaV FaC_size zero_FaC cells_AcV AcC_size cells_LmV LmC_size cells_RV RC_size zero_RC fold_RC cells_ReV ReC_size run_bldF0 run_bldEd run_bldRp run_bsE run_bsR
theorem ok_no {L : List K.En} {n : Nat} (hl : L.length = n) (h : ¬ K.chk L = 0) : K.okN L n = false := by
 cases hb : K.okN L n
 ·rfl
 ·exact absurd ((ok_chk hl).2 hb) h
set_option maxRecDepth 100000 in
set_option maxHeartbeats 6400000 in
theorem refDec_e1 (ao : Option Addr) (n c : Nat) (L : List K.En) (p : Pv) (r ln ct k : Int) (s : ByteArray) (q : Int) (a : Pv) (w : World) (hS : K.ESrc w ao n c L) (hP : PSrc w p) (hA : PSrc w a) (hs : s.size ≤ maxLen) (h : ¬ K.chk L = 0) : Calls Tryz.prog 7 #[.slice ao n c, PV p, .int .i64 r, LmV ⟨ln, ct⟩, AcV (mkA k s q a)] w fun e w' => DeA w w' e (DeD L p.P r ln ct k s q a.P) := by
 obtain ⟨wk, hwk⟩ : ∃ wk, (((w.alloc (.cells (PC p) 26)).alloc (.cells (LmC ⟨ln, ct⟩) 28)).alloc (.cells (AcC (mkA k s q a)) 30)).alloc (.cells (FaC (mkF fc0)) 36) = wk := ⟨_, rfl⟩
 obtain ⟨X1, X2, X3, X4, hb, hS', hP', hA'⟩ := dec_pre ao n c L p ln ct k s q a w hS hP hA hwk
 obtain ⟨G, hG⟩ : ∃ G, w.heap.size = G := ⟨_, rfl⟩
 rw [hG] at X1 X2 X3 X4
 have HX := hide X1
 have HXl := hide X2
 have HXa := hide X3
 have HXf := hide X4
 have HBK := hide hb
 have HS := hide hS'
 have HP := hide hP'
 have HA := hide hA'
 have HG := hide hG
 have HSs := hide hs
 have HLn : Hid (L.length = n) := hS.1
 clear X1 X2 X3 X4 hb hS' hP' hA' hS hP hA hs
 have HOk := hide (ok_no HLn.out h)
 have HN : Hid (¬ SeenAll L p.P) := fun e => h e.1
 clear h
 go_enter Tryz.func7, Tryz.ntmps7
 go_wp2_with fail
 clear hwk hG
 have HD0 := hide (below_drew1 wk)
 refine wp_region_held_drew (S := fun v => (ldP (.pointer (some ⟨G, 0, none⟩))).run Tryz.prog v = .ok (PV p) v) (by kernel_rfl) (run_ldP (HX.out.below HD0.out).at) (fun hHeld => ?_)
 refine wTk 0 ⟨some 17, .move (.tmp 0), 22, "ref.go:136", #[], none⟩ rfl ?_
 refine wpAnyH_ready (rs := [1]) (by kernel_rfl) (by simp) (.cons rfl (fun K hK => ?_) .nil)
 go_simp
 go_wp2_with fail
 refine (refEntries8_any ao n c L _ (HS.out.below HD0.out)).mono ?_
 rintro e w1 ⟨rfl, b1⟩
 rw [HOk.out]
 have HB1 := hide (HD0.out.trans (b1.mono HD0.out.size))
 refine hK.out _ _ (run_ldP (HX.out.below HB1.out).at) (fun hHeld => ?_)
 clear hK K b1
 refine wTk 2 ⟨some 19, .unOp .not 4 (.tmp 18), 4, "ref.go:136", #[⟨1, .data⟩], none⟩ rfl ?_
 refine wTk 3 ⟨some 20, .move (.tmp 19), 4, "ref.go:136", #[⟨2, .data⟩, ⟨1, .chain⟩], none⟩ rfl ?_
 refine wSk 4 ⟨some 21, .load 26 (.tmp 6), 26, "ref.go:136", #[⟨3, .guard⟩], some (3, false)⟩ rfl ?_
 refine wSk 5 ⟨some 22, .call ⟨.value (.func 23), #[.tmp 21], #[26]⟩, 4, "ref.go:136", #[⟨4, .data⟩, ⟨3, .chain⟩, ⟨3, .guard⟩], some (3, false)⟩ rfl ?_
 refine wSk 6 ⟨some 23, .unOp .not 4 (.tmp 22), 4, "ref.go:136", #[⟨5, .data⟩, ⟨3, .guard⟩], some (3, false)⟩ rfl ?_
 refine wTk 7 ⟨some 24, .pick (.tmp 20) (.const (.bool true)) (.tmp 23), 4, "ref.go:136", #[⟨3, .data⟩, ⟨6, .data⟩], none⟩ rfl ?_
 refine wTk 8 ⟨some 25, .move (.tmp 24), 4, "ref.go:136", #[⟨7, .data⟩, ⟨5, .chain⟩], none⟩ rfl ?_
 refine wSk 9 ⟨some 26, .move (.tmp 0), 22, "ref.go:136", #[⟨8, .guard⟩], some (8, false)⟩ rfl ?_
 refine wSk 10 ⟨some 27, .call ⟨.value (.func 25), #[.tmp 26, .const (.string ⟨#[]⟩), .const (.int .i64 (-1))], #[22, 9, 3]⟩, 26, "ref.go:136", #[⟨9, .data⟩, ⟨8, .chain⟩, ⟨8, .guard⟩], some (8, false)⟩ rfl ?_
 refine wSk 11 ⟨some 28, .load 26 (.tmp 6), 26, "ref.go:136", #[⟨8, .guard⟩], some (8, false)⟩ rfl ?_
 refine wSk 12 ⟨some 29, .call ⟨.value (.func 24), #[.tmp 27, .tmp 28], #[26, 26]⟩, 4, "ref.go:136", #[⟨10, .data⟩, ⟨11, .data⟩, ⟨10, .chain⟩, ⟨8, .guard⟩], some (8, false)⟩ rfl ?_
 refine wSk 13 ⟨some 30, .unOp .not 4 (.tmp 29), 4, "ref.go:136", #[⟨12, .data⟩, ⟨8, .guard⟩], some (8, false)⟩ rfl ?_
 refine wTk 14 ⟨some 31, .pick (.tmp 25) (.const (.bool true)) (.tmp 30), 4, "ref.go:136", #[⟨8, .data⟩, ⟨13, .data⟩], none⟩ rfl ?_
 refine wpAnyH_done (by kernel_rfl) ?_ _
 clear hHeld
 have HXn := hide (HXf.out.below HB1.out)
 have tn : (stFa (.pointer (some ⟨G + 3, 0, none⟩)) (.agg (FaC (mkF fc0)))).run Tryz.prog w1 = .ok () (w1.setRow (G + 3) (FaC (mkF fc0))) := run_stFa (m' := mkF fc0) HXn.out
 have HE := hide (give_facts (w := w) (f := fc0) (er := 1) (DeD L p.P r ln ct k s q a.P) HXn.out (fc0_ok _) (fc0_new _) (HBK.out.trans (HB1.out.mono HBK.out.size)) (by have := HG.out; omega) (.inl ⟨HN.out, fc0_no, rfl⟩))
 go_wp2_with fail
 refine bodyPost_ret (res2Fa rfl rfl rfl HE.out.1) rfl ?_
 exact HE.out.2
set_option maxRecDepth 100000 in
set_option maxHeartbeats 6400000 in
theorem refDec_e2 (ao : Option Addr) (n c : Nat) (L : List K.En) (p : Pv) (r ln ct k : Int) (s : ByteArray) (q : Int) (a : Pv) (w : World) (hS : K.ESrc w ao n c L) (hP : PSrc w p) (hA : PSrc w a) (hs : s.size ≤ maxLen) (h0 : K.chk L = 0) (h : ¬ InForm p.P) : Calls Tryz.prog 7 #[.slice ao n c, PV p, .int .i64 r, LmV ⟨ln, ct⟩, AcV (mkA k s q a)] w fun e w' => DeA w w' e (DeD L p.P r ln ct k s q a.P) := by
 obtain ⟨wk, hwk⟩ : ∃ wk, (((w.alloc (.cells (PC p) 26)).alloc (.cells (LmC ⟨ln, ct⟩) 28)).alloc (.cells (AcC (mkA k s q a)) 30)).alloc (.cells (FaC (mkF fc0)) 36) = wk := ⟨_, rfl⟩
 obtain ⟨X1, X2, X3, X4, hb, hS', hP', hA'⟩ := dec_pre ao n c L p ln ct k s q a w hS hP hA hwk
 obtain ⟨G, hG⟩ : ∃ G, w.heap.size = G := ⟨_, rfl⟩
 rw [hG] at X1 X2 X3 X4
 have HX := hide X1
 have HXl := hide X2
 have HXa := hide X3
 have HXf := hide X4
 have HBK := hide hb
 have HS := hide hS'
 have HP := hide hP'
 have HA := hide hA'
 have HG := hide hG
 have HSs := hide hs
 have HLn : Hid (L.length = n) := hS.1
 clear X1 X2 X3 X4 hb hS' hP' hA' hS hP hA hs
 have HOk := hide ((ok_chk HLn.out).1 h0)
 have HI := hide h
 have HN : Hid (¬ SeenAll L p.P) := fun e => h e.2.1
 clear h h0
 go_enter Tryz.func7, Tryz.ntmps7
 go_wp2_with fail
 clear hwk hG
 have HD0 := hide (below_drew1 wk)
 refine wp_region_held_drew (S := fun v => (ldP (.pointer (some ⟨G, 0, none⟩))).run Tryz.prog v = .ok (PV p) v) (by kernel_rfl) (run_ldP (HX.out.below HD0.out).at) (fun hHeld => ?_)
 refine wTk 0 ⟨some 17, .move (.tmp 0), 22, "ref.go:136", #[], none⟩ rfl ?_
 refine wpAnyH_ready (rs := [1]) (by kernel_rfl) (by simp) (.cons rfl (fun K hK => ?_) .nil)
 go_simp
 go_wp2_with fail
 refine (refEntries8_any ao n c L _ (HS.out.below HD0.out)).mono ?_
 rintro e w1 ⟨rfl, b1⟩
 rw [HOk.out]
 have HB1 := hide (HD0.out.trans (b1.mono HD0.out.size))
 refine hK.out _ _ (run_ldP (HX.out.below HB1.out).at) (fun hHeld => ?_)
 clear hK K b1
 refine wTk 2 ⟨some 19, .unOp .not 4 (.tmp 18), 4, "ref.go:136", #[⟨1, .data⟩], none⟩ rfl ?_
 refine wTk 3 ⟨some 20, .move (.tmp 19), 4, "ref.go:136", #[⟨2, .data⟩, ⟨1, .chain⟩], none⟩ rfl ?_
 refine wTk 4 ⟨some 21, .load 26 (.tmp 6), 26, "ref.go:136", #[⟨3, .guard⟩], some (3, false)⟩ rfl ?_
 refine wpAnyH_ready (rs := [5]) (by kernel_rfl) (by simp) (.cons rfl (fun K hK => ?_) .nil)
 go_simp
 go_wp2_with fail
 refine (refIsNorm_any p _ (HP.out.below HB1.out)).mono ?_
 rintro e w2 ⟨b, rfl, hb, b2⟩
 obtain rfl : b = false := by
  cases b
  ·rfl
  ·exact absurd (hb.out.1 rfl) HI.out
 have HB2 := hide (HB1.out.trans (b2.mono HB1.out.size))
 refine hK.out _ _ (run_ldP (HX.out.below HB2.out).at) (fun hHeld => ?_)
 clear hK K hb b2
 refine wTk 6 ⟨some 23, .unOp .not 4 (.tmp 22), 4, "ref.go:136", #[⟨5, .data⟩, ⟨3, .guard⟩], some (3, false)⟩ rfl ?_
 refine wTk 7 ⟨some 24, .pick (.tmp 20) (.const (.bool true)) (.tmp 23), 4, "ref.go:136", #[⟨3, .data⟩, ⟨6, .data⟩], none⟩ rfl ?_
 refine wTk 8 ⟨some 25, .move (.tmp 24), 4, "ref.go:136", #[⟨7, .data⟩, ⟨5, .chain⟩], none⟩ rfl ?_
 refine wSk 9 ⟨some 26, .move (.tmp 0), 22, "ref.go:136", #[⟨8, .guard⟩], some (8, false)⟩ rfl ?_
 refine wSk 10 ⟨some 27, .call ⟨.value (.func 25), #[.tmp 26, .const (.string ⟨#[]⟩), .const (.int .i64 (-1))], #[22, 9, 3]⟩, 26, "ref.go:136", #[⟨9, .data⟩, ⟨8, .chain⟩, ⟨8, .guard⟩], some (8, false)⟩ rfl ?_
 refine wSk 11 ⟨some 28, .load 26 (.tmp 6), 26, "ref.go:136", #[⟨8, .guard⟩], some (8, false)⟩ rfl ?_
 refine wSk 12 ⟨some 29, .call ⟨.value (.func 24), #[.tmp 27, .tmp 28], #[26, 26]⟩, 4, "ref.go:136", #[⟨10, .data⟩, ⟨11, .data⟩, ⟨10, .chain⟩, ⟨8, .guard⟩], some (8, false)⟩ rfl ?_
 refine wSk 13 ⟨some 30, .unOp .not 4 (.tmp 29), 4, "ref.go:136", #[⟨12, .data⟩, ⟨8, .guard⟩], some (8, false)⟩ rfl ?_
 refine wTk 14 ⟨some 31, .pick (.tmp 25) (.const (.bool true)) (.tmp 30), 4, "ref.go:136", #[⟨8, .data⟩, ⟨13, .data⟩], none⟩ rfl ?_
 refine wpAnyH_done (by kernel_rfl) ?_ _
 clear hHeld
 have HXn := hide (HXf.out.below HB2.out)
 have tn : (stFa (.pointer (some ⟨G + 3, 0, none⟩)) (.agg (FaC (mkF fc0)))).run Tryz.prog w2 = .ok () (w2.setRow (G + 3) (FaC (mkF fc0))) := run_stFa (m' := mkF fc0) HXn.out
 have HE := hide (give_facts (w := w) (f := fc0) (er := 1) (DeD L p.P r ln ct k s q a.P) HXn.out (fc0_ok _) (fc0_new _) (HBK.out.trans (HB2.out.mono HBK.out.size)) (by have := HG.out; omega) (.inl ⟨HN.out, fc0_no, rfl⟩))
 go_wp2_with fail
 refine bodyPost_ret (res2Fa rfl rfl rfl HE.out.1) rfl ?_
 exact HE.out.2
set_option maxRecDepth 100000 in
set_option maxHeartbeats 6400000 in
theorem refDec_e3 (ao : Option Addr) (n c : Nat) (L : List K.En) (p : Pv) (r ln ct k : Int) (s : ByteArray) (q : Int) (a : Pv) (w : World) (hS : K.ESrc w ao n c L) (hP : PSrc w p) (hA : PSrc w a) (hs : s.size ≤ maxLen) (h0 : K.chk L = 0) (h1 : InForm p.P) (h : ¬ SeenAll L p.P) : Calls Tryz.prog 7 #[.slice ao n c, PV p, .int .i64 r, LmV ⟨ln, ct⟩, AcV (mkA k s q a)] w fun e w' => DeA w w' e (DeD L p.P r ln ct k s q a.P) := by
 obtain ⟨wk, hwk⟩ : ∃ wk, (((w.alloc (.cells (PC p) 26)).alloc (.cells (LmC ⟨ln, ct⟩) 28)).alloc (.cells (AcC (mkA k s q a)) 30)).alloc (.cells (FaC (mkF fc0)) 36) = wk := ⟨_, rfl⟩
 obtain ⟨X1, X2, X3, X4, hb, hS', hP', hA'⟩ := dec_pre ao n c L p ln ct k s q a w hS hP hA hwk
 obtain ⟨G, hG⟩ : ∃ G, w.heap.size = G := ⟨_, rfl⟩
 rw [hG] at X1 X2 X3 X4
 have HX := hide X1
 have HXl := hide X2
 have HXa := hide X3
 have HXf := hide X4
 have HBK := hide hb
 have HS := hide hS'
 have HP := hide hP'
 have HA := hide hA'
 have HG := hide hG
 have HSs := hide hs
 have HLn : Hid (L.length = n) := hS.1
 clear X1 X2 X3 X4 hb hS' hP' hA' hS hP hA hs
 have HOk := hide ((ok_chk HLn.out).1 h0)
 have HC := hide h0
 have HI := hide h1
 have HN := hide h
 clear h h0 h1
 go_enter Tryz.func7, Tryz.ntmps7
 go_wp2_with fail
 clear hwk hG
 have HD0 := hide (below_drew1 wk)
 refine wp_region_held_drew (S := fun v => (ldP (.pointer (some ⟨G, 0, none⟩))).run Tryz.prog v = .ok (PV p) v) (by kernel_rfl) (run_ldP (HX.out.below HD0.out).at) (fun hHeld => ?_)
 refine wTk 0 ⟨some 17, .move (.tmp 0), 22, "ref.go:136", #[], none⟩ rfl ?_
 refine wpAnyH_ready (rs := [1]) (by kernel_rfl) (by simp) (.cons rfl (fun K hK => ?_) .nil)
 go_simp
 go_wp2_with fail
 refine (refEntries8_any ao n c L _ (HS.out.below HD0.out)).mono ?_
 rintro e w1 ⟨rfl, b1⟩
 rw [HOk.out]
 have HB1 := hide (HD0.out.trans (b1.mono HD0.out.size))
 refine hK.out _ _ (run_ldP (HX.out.below HB1.out).at) (fun hHeld => ?_)
 clear hK K b1
 refine wTk 2 ⟨some 19, .unOp .not 4 (.tmp 18), 4, "ref.go:136", #[⟨1, .data⟩], none⟩ rfl ?_
 refine wTk 3 ⟨some 20, .move (.tmp 19), 4, "ref.go:136", #[⟨2, .data⟩, ⟨1, .chain⟩], none⟩ rfl ?_
 refine wTk 4 ⟨some 21, .load 26 (.tmp 6), 26, "ref.go:136", #[⟨3, .guard⟩], some (3, false)⟩ rfl ?_
 refine wpAnyH_ready (rs := [5]) (by kernel_rfl) (by simp) (.cons rfl (fun K hK => ?_) .nil)
 go_simp
 go_wp2_with fail
 refine (refIsNorm_any p _ (HP.out.below HB1.out)).mono ?_
 rintro e w2 ⟨b, rfl, hb, b2⟩
 obtain rfl : b = true := by
  exact hb.out.2 HI.out
 have HB2 := hide (HB1.out.trans (b2.mono HB1.out.size))
 refine hK.out _ _ (run_ldP (HX.out.below HB2.out).at) (fun hHeld => ?_)
 clear hK K hb b2
 refine wTk 6 ⟨some 23, .unOp .not 4 (.tmp 22), 4, "ref.go:136", #[⟨5, .data⟩, ⟨3, .guard⟩], some (3, false)⟩ rfl ?_
 refine wTk 7 ⟨some 24, .pick (.tmp 20) (.const (.bool true)) (.tmp 23), 4, "ref.go:136", #[⟨3, .data⟩, ⟨6, .data⟩], none⟩ rfl ?_
 refine wTk 8 ⟨some 25, .move (.tmp 24), 4, "ref.go:136", #[⟨7, .data⟩, ⟨5, .chain⟩], none⟩ rfl ?_
 refine wTk 9 ⟨some 26, .move (.tmp 0), 22, "ref.go:136", #[⟨8, .guard⟩], some (8, false)⟩ rfl ?_
 refine wTk 11 ⟨some 28, .load 26 (.tmp 6), 26, "ref.go:136", #[⟨8, .guard⟩], some (8, false)⟩ rfl ?_
 refine wpAnyH_ready (rs := [10]) (by kernel_rfl) (by simp) (.cons rfl (fun K hK => ?_) .nil)
 go_simp
 go_wp2_with fail
 refine (refDots8_any ao n c L ⟨#[]⟩ (-1) _ (HS.out.below HB2.out)).mono ?_
 rw [ds_all]
 rintro e w3 ⟨p1, rfl, S3, n3, b3, C3⟩
 have HB3 := hide (HB2.out.trans (b3.mono HB2.out.size))
 have HS3 := hide S3
 have HC3 := hide C3
 refine hK.out _ _ (run_ldP (HX.out.below HB3.out).at) (fun hHeld => ?_)
 clear hK K b3 S3 n3 C3
 refine wpAnyH_ready (rs := [12]) (by kernel_rfl) (by simp) (.cons rfl (fun K hK => ?_) .nil)
 go_simp
 go_wp2_with fail
 refine (refWithin_any p1 p _ HS3.out (HP.out.below HB3.out)).mono ?_
 rintro e w4 ⟨b, rfl, hb, b4⟩
 obtain rfl : b = false := by
  (cases b; rfl; exact absurd ⟨HC.out, HI.out, (within_seen HC.out HC3.out).1 (hb.1 rfl)⟩ HN.out)
 have HB4 := hide (HB3.out.trans (b4.mono HB3.out.size))
 refine hK.out _ _ (run_ldP (HX.out.below HB4.out).at) (fun hHeld => ?_)
 clear hK K hb b4 HC3 HS3
 refine wTk 13 ⟨some 30, .unOp .not 4 (.tmp 29), 4, "ref.go:136", #[⟨12, .data⟩, ⟨8, .guard⟩], some (8, false)⟩ rfl ?_
 refine wTk 14 ⟨some 31, .pick (.tmp 25) (.const (.bool true)) (.tmp 30), 4, "ref.go:136", #[⟨8, .data⟩, ⟨13, .data⟩], none⟩ rfl ?_
 refine wpAnyH_done (by kernel_rfl) ?_ _
 clear hHeld
 have HXn := hide (HXf.out.below HB4.out)
 have tn : (stFa (.pointer (some ⟨G + 3, 0, none⟩)) (.agg (FaC (mkF fc0)))).run Tryz.prog w4 = .ok () (w4.setRow (G + 3) (FaC (mkF fc0))) := run_stFa (m' := mkF fc0) HXn.out
 have HE := hide (give_facts (w := w) (f := fc0) (er := 1) (DeD L p.P r ln ct k s q a.P) HXn.out (fc0_ok _) (fc0_new _) (HBK.out.trans (HB4.out.mono HBK.out.size)) (by have := HG.out; omega) (.inl ⟨HN.out, fc0_no, rfl⟩))
 go_wp2_with fail
 refine bodyPost_ret (res2Fa rfl rfl rfl HE.out.1) rfl ?_
 exact HE.out.2
set_option maxRecDepth 100000 in
set_option maxHeartbeats 6400000 in
theorem refDec_e4 (ao : Option Addr) (n c : Nat) (L : List K.En) (p : Pv) (r ln ct k : Int) (s : ByteArray) (q : Int) (a : Pv) (w : World) (hS : K.ESrc w ao n c L) (hP : PSrc w p) (hA : PSrc w a) (hs : s.size ≤ maxLen) (hSn : SeenAll L p.P) (h : ¬ RepOk r) : Calls Tryz.prog 7 #[.slice ao n c, PV p, .int .i64 r, LmV ⟨ln, ct⟩, AcV (mkA k s q a)] w fun e w' => DeA w w' e (DeD L p.P r ln ct k s q a.P) := by
 obtain ⟨wk, hwk⟩ : ∃ wk, (((w.alloc (.cells (PC p) 26)).alloc (.cells (LmC ⟨ln, ct⟩) 28)).alloc (.cells (AcC (mkA k s q a)) 30)).alloc (.cells (FaC (mkF fc0)) 36) = wk := ⟨_, rfl⟩
 obtain ⟨X1, X2, X3, X4, hb, hS', hP', hA'⟩ := dec_pre ao n c L p ln ct k s q a w hS hP hA hwk
 obtain ⟨G, hG⟩ : ∃ G, w.heap.size = G := ⟨_, rfl⟩
 rw [hG] at X1 X2 X3 X4
 have HX := hide X1
 have HXl := hide X2
 have HXa := hide X3
 have HXf := hide X4
 have HBK := hide hb
 have HS := hide hS'
 have HP := hide hP'
 have HA := hide hA'
 have HG := hide hG
 have HSs := hide hs
 have HLn : Hid (L.length = n) := hS.1
 clear X1 X2 X3 X4 hb hS' hP' hA' hS hP hA hs
 have HOk := hide ((ok_chk HLn.out).1 hSn.1)
 have HC := hide hSn.1
 have HI := hide hSn.2.1
 have HSn := hide hSn
 clear hSn
 have HN := hide h
 clear h
 go_enter Tryz.func7, Tryz.ntmps7
 go_wp2_with fail
 clear hwk hG
 have HD0 := hide (below_drew1 wk)
 refine wp_region_held_drew (S := fun v => (ldP (.pointer (some ⟨G, 0, none⟩))).run Tryz.prog v = .ok (PV p) v) (by kernel_rfl) (run_ldP (HX.out.below HD0.out).at) (fun hHeld => ?_)
 refine wTk 0 ⟨some 17, .move (.tmp 0), 22, "ref.go:136", #[], none⟩ rfl ?_
 refine wpAnyH_ready (rs := [1]) (by kernel_rfl) (by simp) (.cons rfl (fun K hK => ?_) .nil)
 go_simp
 go_wp2_with fail
 refine (refEntries8_any ao n c L _ (HS.out.below HD0.out)).mono ?_
 rintro e w1 ⟨rfl, b1⟩
 rw [HOk.out]
 have HB1 := hide (HD0.out.trans (b1.mono HD0.out.size))
 refine hK.out _ _ (run_ldP (HX.out.below HB1.out).at) (fun hHeld => ?_)
 clear hK K b1
 refine wTk 2 ⟨some 19, .unOp .not 4 (.tmp 18), 4, "ref.go:136", #[⟨1, .data⟩], none⟩ rfl ?_
 refine wTk 3 ⟨some 20, .move (.tmp 19), 4, "ref.go:136", #[⟨2, .data⟩, ⟨1, .chain⟩], none⟩ rfl ?_
 refine wTk 4 ⟨some 21, .load 26 (.tmp 6), 26, "ref.go:136", #[⟨3, .guard⟩], some (3, false)⟩ rfl ?_
 refine wpAnyH_ready (rs := [5]) (by kernel_rfl) (by simp) (.cons rfl (fun K hK => ?_) .nil)
 go_simp
 go_wp2_with fail
 refine (refIsNorm_any p _ (HP.out.below HB1.out)).mono ?_
 rintro e w2 ⟨b, rfl, hb, b2⟩
 obtain rfl : b = true := by
  exact hb.out.2 HI.out
 have HB2 := hide (HB1.out.trans (b2.mono HB1.out.size))
 refine hK.out _ _ (run_ldP (HX.out.below HB2.out).at) (fun hHeld => ?_)
 clear hK K hb b2
 refine wTk 6 ⟨some 23, .unOp .not 4 (.tmp 22), 4, "ref.go:136", #[⟨5, .data⟩, ⟨3, .guard⟩], some (3, false)⟩ rfl ?_
 refine wTk 7 ⟨some 24, .pick (.tmp 20) (.const (.bool true)) (.tmp 23), 4, "ref.go:136", #[⟨3, .data⟩, ⟨6, .data⟩], none⟩ rfl ?_
 refine wTk 8 ⟨some 25, .move (.tmp 24), 4, "ref.go:136", #[⟨7, .data⟩, ⟨5, .chain⟩], none⟩ rfl ?_
 refine wTk 9 ⟨some 26, .move (.tmp 0), 22, "ref.go:136", #[⟨8, .guard⟩], some (8, false)⟩ rfl ?_
 refine wTk 11 ⟨some 28, .load 26 (.tmp 6), 26, "ref.go:136", #[⟨8, .guard⟩], some (8, false)⟩ rfl ?_
 refine wpAnyH_ready (rs := [10]) (by kernel_rfl) (by simp) (.cons rfl (fun K hK => ?_) .nil)
 go_simp
 go_wp2_with fail
 refine (refDots8_any ao n c L ⟨#[]⟩ (-1) _ (HS.out.below HB2.out)).mono ?_
 rw [ds_all]
 rintro e w3 ⟨p1, rfl, S3, n3, b3, C3⟩
 have HB3 := hide (HB2.out.trans (b3.mono HB2.out.size))
 have HS3 := hide S3
 have HC3 := hide C3
 refine hK.out _ _ (run_ldP (HX.out.below HB3.out).at) (fun hHeld => ?_)
 clear hK K b3 S3 n3 C3
 refine wpAnyH_ready (rs := [12]) (by kernel_rfl) (by simp) (.cons rfl (fun K hK => ?_) .nil)
 go_simp
 go_wp2_with fail
 refine (refWithin_any p1 p _ HS3.out (HP.out.below HB3.out)).mono ?_
 rintro e w4 ⟨b, rfl, hb, b4⟩
 obtain rfl : b = true := by
  exact hb.2 ((within_seen HC.out HC3.out).2 HSn.out.2.2)
 have HB4 := hide (HB3.out.trans (b4.mono HB3.out.size))
 refine hK.out _ _ (run_ldP (HX.out.below HB4.out).at) (fun hHeld => ?_)
 clear hK K hb b4 HC3 HS3
 refine wTk 13 ⟨some 30, .unOp .not 4 (.tmp 29), 4, "ref.go:136", #[⟨12, .data⟩, ⟨8, .guard⟩], some (8, false)⟩ rfl ?_
 refine wTk 14 ⟨some 31, .pick (.tmp 25) (.const (.bool true)) (.tmp 30), 4, "ref.go:136", #[⟨8, .data⟩, ⟨13, .data⟩], none⟩ rfl ?_
 refine wpAnyH_done (by kernel_rfl) ?_ _
 clear hHeld
 by_cases hr1 : r < 0
 ·skip
  have HXn := hide (HXf.out.below HB4.out)
  have tn : (stFa (.pointer (some ⟨G + 3, 0, none⟩)) (.agg (FaC (mkF fc0)))).run Tryz.prog w4 = .ok () (w4.setRow (G + 3) (FaC (mkF fc0))) := run_stFa (m' := mkF fc0) HXn.out
  have HE := hide (give_facts (w := w) (f := fc0) (er := 3) (DeD L p.P r ln ct k s q a.P) HXn.out (fc0_ok _) (fc0_new _) (HBK.out.trans (HB4.out.mono HBK.out.size)) (by have := HG.out; omega) (.inr ⟨HSn.out, .inl ⟨HN.out, fc0_no, rfl⟩⟩))
  go_wp2_with fail
  refine bodyPost_ret (res2Fa rfl rfl rfl HE.out.1) rfl ?_
  exact HE.out.2
 ·have hr2 : 16 ≤ r := by
   have := HN.out
   unfold RepOk at this
   omega
  have HXn := hide (HXf.out.below HB4.out)
  have tn : (stFa (.pointer (some ⟨G + 3, 0, none⟩)) (.agg (FaC (mkF fc0)))).run Tryz.prog w4 = .ok () (w4.setRow (G + 3) (FaC (mkF fc0))) := run_stFa (m' := mkF fc0) HXn.out
  have HE := hide (give_facts (w := w) (f := fc0) (er := 3) (DeD L p.P r ln ct k s q a.P) HXn.out (fc0_ok _) (fc0_new _) (HBK.out.trans (HB4.out.mono HBK.out.size)) (by have := HG.out; omega) (.inr ⟨HSn.out, .inl ⟨HN.out, fc0_no, rfl⟩⟩))
  go_wp2_with fail
  refine bodyPost_ret (res2Fa rfl rfl rfl HE.out.1) rfl ?_
  exact HE.out.2
set_option maxRecDepth 100000 in
set_option maxHeartbeats 6400000 in
theorem refDec_e5 (ao : Option Addr) (n c : Nat) (L : List K.En) (p : Pv) (r ln ct k : Int) (s : ByteArray) (q : Int) (a : Pv) (w : World) (hS : K.ESrc w ao n c L) (hP : PSrc w p) (hA : PSrc w a) (hs : s.size ≤ maxLen) (hSn : SeenAll L p.P) (hR : RepOk r) (h : ¬ LimOk ln ct) : Calls Tryz.prog 7 #[.slice ao n c, PV p, .int .i64 r, LmV ⟨ln, ct⟩, AcV (mkA k s q a)] w fun e w' => DeA w w' e (DeD L p.P r ln ct k s q a.P) := by
 obtain ⟨wk, hwk⟩ : ∃ wk, (((w.alloc (.cells (PC p) 26)).alloc (.cells (LmC ⟨ln, ct⟩) 28)).alloc (.cells (AcC (mkA k s q a)) 30)).alloc (.cells (FaC (mkF fc0)) 36) = wk := ⟨_, rfl⟩
 obtain ⟨X1, X2, X3, X4, hb, hS', hP', hA'⟩ := dec_pre ao n c L p ln ct k s q a w hS hP hA hwk
 obtain ⟨G, hG⟩ : ∃ G, w.heap.size = G := ⟨_, rfl⟩
 rw [hG] at X1 X2 X3 X4
 have HX := hide X1
 have HXl := hide X2
 have HXa := hide X3
 have HXf := hide X4
 have HBK := hide hb
 have HS := hide hS'
 have HP := hide hP'
 have HA := hide hA'
 have HG := hide hG
 have HSs := hide hs
 have HLn : Hid (L.length = n) := hS.1
 clear X1 X2 X3 X4 hb hS' hP' hA' hS hP hA hs
 have HOk := hide ((ok_chk HLn.out).1 hSn.1)
 have HC := hide hSn.1
 have HI := hide hSn.2.1
 have HSn := hide hSn
 clear hSn
 have HR := hide hR
 have HN := hide h
 clear h hR
 go_enter Tryz.func7, Tryz.ntmps7
 go_wp2_with fail
 clear hwk hG
 have HD0 := hide (below_drew1 wk)
 refine wp_region_held_drew (S := fun v => (ldP (.pointer (some ⟨G, 0, none⟩))).run Tryz.prog v = .ok (PV p) v) (by kernel_rfl) (run_ldP (HX.out.below HD0.out).at) (fun hHeld => ?_)
 refine wTk 0 ⟨some 17, .move (.tmp 0), 22, "ref.go:136", #[], none⟩ rfl ?_
 refine wpAnyH_ready (rs := [1]) (by kernel_rfl) (by simp) (.cons rfl (fun K hK => ?_) .nil)
 go_simp
 go_wp2_with fail
 refine (refEntries8_any ao n c L _ (HS.out.below HD0.out)).mono ?_
 rintro e w1 ⟨rfl, b1⟩
 rw [HOk.out]
 have HB1 := hide (HD0.out.trans (b1.mono HD0.out.size))
 refine hK.out _ _ (run_ldP (HX.out.below HB1.out).at) (fun hHeld => ?_)
 clear hK K b1
 refine wTk 2 ⟨some 19, .unOp .not 4 (.tmp 18), 4, "ref.go:136", #[⟨1, .data⟩], none⟩ rfl ?_
 refine wTk 3 ⟨some 20, .move (.tmp 19), 4, "ref.go:136", #[⟨2, .data⟩, ⟨1, .chain⟩], none⟩ rfl ?_
 refine wTk 4 ⟨some 21, .load 26 (.tmp 6), 26, "ref.go:136", #[⟨3, .guard⟩], some (3, false)⟩ rfl ?_
 refine wpAnyH_ready (rs := [5]) (by kernel_rfl) (by simp) (.cons rfl (fun K hK => ?_) .nil)
 go_simp
 go_wp2_with fail
 refine (refIsNorm_any p _ (HP.out.below HB1.out)).mono ?_
 rintro e w2 ⟨b, rfl, hb, b2⟩
 obtain rfl : b = true := by
  exact hb.out.2 HI.out
 have HB2 := hide (HB1.out.trans (b2.mono HB1.out.size))
 refine hK.out _ _ (run_ldP (HX.out.below HB2.out).at) (fun hHeld => ?_)
 clear hK K hb b2
 refine wTk 6 ⟨some 23, .unOp .not 4 (.tmp 22), 4, "ref.go:136", #[⟨5, .data⟩, ⟨3, .guard⟩], some (3, false)⟩ rfl ?_
 refine wTk 7 ⟨some 24, .pick (.tmp 20) (.const (.bool true)) (.tmp 23), 4, "ref.go:136", #[⟨3, .data⟩, ⟨6, .data⟩], none⟩ rfl ?_
 refine wTk 8 ⟨some 25, .move (.tmp 24), 4, "ref.go:136", #[⟨7, .data⟩, ⟨5, .chain⟩], none⟩ rfl ?_
 refine wTk 9 ⟨some 26, .move (.tmp 0), 22, "ref.go:136", #[⟨8, .guard⟩], some (8, false)⟩ rfl ?_
 refine wTk 11 ⟨some 28, .load 26 (.tmp 6), 26, "ref.go:136", #[⟨8, .guard⟩], some (8, false)⟩ rfl ?_
 refine wpAnyH_ready (rs := [10]) (by kernel_rfl) (by simp) (.cons rfl (fun K hK => ?_) .nil)
 go_simp
 go_wp2_with fail
 refine (refDots8_any ao n c L ⟨#[]⟩ (-1) _ (HS.out.below HB2.out)).mono ?_
 rw [ds_all]
 rintro e w3 ⟨p1, rfl, S3, n3, b3, C3⟩
 have HB3 := hide (HB2.out.trans (b3.mono HB2.out.size))
 have HS3 := hide S3
 have HC3 := hide C3
 refine hK.out _ _ (run_ldP (HX.out.below HB3.out).at) (fun hHeld => ?_)
 clear hK K b3 S3 n3 C3
 refine wpAnyH_ready (rs := [12]) (by kernel_rfl) (by simp) (.cons rfl (fun K hK => ?_) .nil)
 go_simp
 go_wp2_with fail
 refine (refWithin_any p1 p _ HS3.out (HP.out.below HB3.out)).mono ?_
 rintro e w4 ⟨b, rfl, hb, b4⟩
 obtain rfl : b = true := by
  exact hb.2 ((within_seen HC.out HC3.out).2 HSn.out.2.2)
 have HB4 := hide (HB3.out.trans (b4.mono HB3.out.size))
 refine hK.out _ _ (run_ldP (HX.out.below HB4.out).at) (fun hHeld => ?_)
 clear hK K hb b4 HC3 HS3
 refine wTk 13 ⟨some 30, .unOp .not 4 (.tmp 29), 4, "ref.go:136", #[⟨12, .data⟩, ⟨8, .guard⟩], some (8, false)⟩ rfl ?_
 refine wTk 14 ⟨some 31, .pick (.tmp 25) (.const (.bool true)) (.tmp 30), 4, "ref.go:136", #[⟨8, .data⟩, ⟨13, .data⟩], none⟩ rfl ?_
 refine wpAnyH_done (by kernel_rfl) ?_ _
 clear hHeld
 have hr1 : ¬ r < 0 := by have := HR.out.1; omega
 have hr2 : ¬ 16 ≤ r := by have := HR.out.2; omega
 have m1 := (HXl.out.below HB4.out).c0
 have m2 := (HXl.out.below HB4.out).c1
 dsimp only at m1 m2
 by_cases hl1 : ln < 1
 ·skip
  have HXn := hide (HXf.out.below HB4.out)
  have tn : (stFa (.pointer (some ⟨G + 3, 0, none⟩)) (.agg (FaC (mkF fc0)))).run Tryz.prog w4 = .ok () (w4.setRow (G + 3) (FaC (mkF fc0))) := run_stFa (m' := mkF fc0) HXn.out
  have HE := hide (give_facts (w := w) (f := fc0) (er := 2) (DeD L p.P r ln ct k s q a.P) HXn.out (fc0_ok _) (fc0_new _) (HBK.out.trans (HB4.out.mono HBK.out.size)) (by have := HG.out; omega) (.inr ⟨HSn.out, .inr ⟨HR.out, .inl ⟨HN.out, fc0_no, rfl⟩⟩⟩))
  go_wp2_with fail
  refine bodyPost_ret (res2Fa rfl rfl rfl HE.out.1) rfl ?_
  exact HE.out.2
 by_cases hl2 : 1000 < ln
 ·skip
  have HXn := hide (HXf.out.below HB4.out)
  have tn : (stFa (.pointer (some ⟨G + 3, 0, none⟩)) (.agg (FaC (mkF fc0)))).run Tryz.prog w4 = .ok () (w4.setRow (G + 3) (FaC (mkF fc0))) := run_stFa (m' := mkF fc0) HXn.out
  have HE := hide (give_facts (w := w) (f := fc0) (er := 2) (DeD L p.P r ln ct k s q a.P) HXn.out (fc0_ok _) (fc0_new _) (HBK.out.trans (HB4.out.mono HBK.out.size)) (by have := HG.out; omega) (.inr ⟨HSn.out, .inr ⟨HR.out, .inl ⟨HN.out, fc0_no, rfl⟩⟩⟩))
  go_wp2_with fail
  refine bodyPost_ret (res2Fa rfl rfl rfl HE.out.1) rfl ?_
  exact HE.out.2
 by_cases hl3 : ct < 1
 ·skip
  have HXn := hide (HXf.out.below HB4.out)
  have tn : (stFa (.pointer (some ⟨G + 3, 0, none⟩)) (.agg (FaC (mkF fc0)))).run Tryz.prog w4 = .ok () (w4.setRow (G + 3) (FaC (mkF fc0))) := run_stFa (m' := mkF fc0) HXn.out
  have HE := hide (give_facts (w := w) (f := fc0) (er := 2) (DeD L p.P r ln ct k s q a.P) HXn.out (fc0_ok _) (fc0_new _) (HBK.out.trans (HB4.out.mono HBK.out.size)) (by have := HG.out; omega) (.inr ⟨HSn.out, .inr ⟨HR.out, .inl ⟨HN.out, fc0_no, rfl⟩⟩⟩))
  go_wp2_with fail
  refine bodyPost_ret (res2Fa rfl rfl rfl HE.out.1) rfl ?_
  exact HE.out.2
 have hl4 : 1000000000 < ct := by
  have := HN.out
  unfold LimOk at this
  omega
 have HXn := hide (HXf.out.below HB4.out)
 have tn : (stFa (.pointer (some ⟨G + 3, 0, none⟩)) (.agg (FaC (mkF fc0)))).run Tryz.prog w4 = .ok () (w4.setRow (G + 3) (FaC (mkF fc0))) := run_stFa (m' := mkF fc0) HXn.out
 have HE := hide (give_facts (w := w) (f := fc0) (er := 2) (DeD L p.P r ln ct k s q a.P) HXn.out (fc0_ok _) (fc0_new _) (HBK.out.trans (HB4.out.mono HBK.out.size)) (by have := HG.out; omega) (.inr ⟨HSn.out, .inr ⟨HR.out, .inl ⟨HN.out, fc0_no, rfl⟩⟩⟩))
 go_wp2_with fail
 refine bodyPost_ret (res2Fa rfl rfl rfl HE.out.1) rfl ?_
 exact HE.out.2
set_option maxRecDepth 100000 in
set_option maxHeartbeats 6400000 in
theorem refDec_e6 (ao : Option Addr) (n c : Nat) (L : List K.En) (p : Pv) (r ln ct k : Int) (s : ByteArray) (q : Int) (a : Pv) (w : World) (hS : K.ESrc w ao n c L) (hP : PSrc w p) (hA : PSrc w a) (hs : s.size ≤ maxLen) (hSn : SeenAll L p.P) (hR : RepOk r) (hLm : LimOk ln ct) (h : ¬ AckOf k a.P s q 0) : Calls Tryz.prog 7 #[.slice ao n c, PV p, .int .i64 r, LmV ⟨ln, ct⟩, AcV (mkA k s q a)] w fun e w' => DeA w w' e (DeD L p.P r ln ct k s q a.P) := by
 obtain ⟨wk, hwk⟩ : ∃ wk, (((w.alloc (.cells (PC p) 26)).alloc (.cells (LmC ⟨ln, ct⟩) 28)).alloc (.cells (AcC (mkA k s q a)) 30)).alloc (.cells (FaC (mkF fc0)) 36) = wk := ⟨_, rfl⟩
 obtain ⟨X1, X2, X3, X4, hb, hS', hP', hA'⟩ := dec_pre ao n c L p ln ct k s q a w hS hP hA hwk
 obtain ⟨G, hG⟩ : ∃ G, w.heap.size = G := ⟨_, rfl⟩
 rw [hG] at X1 X2 X3 X4
 have HX := hide X1
 have HXl := hide X2
 have HXa := hide X3
 have HXf := hide X4
 have HBK := hide hb
 have HS := hide hS'
 have HP := hide hP'
 have HA := hide hA'
 have HG := hide hG
 have HSs := hide hs
 have HLn : Hid (L.length = n) := hS.1
 clear X1 X2 X3 X4 hb hS' hP' hA' hS hP hA hs
 have HOk := hide ((ok_chk HLn.out).1 hSn.1)
 have HC := hide hSn.1
 have HI := hide hSn.2.1
 have HSn := hide hSn
 clear hSn
 have HR := hide hR
 have HLm := hide hLm
 have HN := hide h
 clear h hR hLm
 go_enter Tryz.func7, Tryz.ntmps7
 go_wp2_with fail
 clear hwk hG
 have HD0 := hide (below_drew1 wk)
 refine wp_region_held_drew (S := fun v => (ldP (.pointer (some ⟨G, 0, none⟩))).run Tryz.prog v = .ok (PV p) v) (by kernel_rfl) (run_ldP (HX.out.below HD0.out).at) (fun hHeld => ?_)
 refine wTk 0 ⟨some 17, .move (.tmp 0), 22, "ref.go:136", #[], none⟩ rfl ?_
 refine wpAnyH_ready (rs := [1]) (by kernel_rfl) (by simp) (.cons rfl (fun K hK => ?_) .nil)
 go_simp
 go_wp2_with fail
 refine (refEntries8_any ao n c L _ (HS.out.below HD0.out)).mono ?_
 rintro e w1 ⟨rfl, b1⟩
 rw [HOk.out]
 have HB1 := hide (HD0.out.trans (b1.mono HD0.out.size))
 refine hK.out _ _ (run_ldP (HX.out.below HB1.out).at) (fun hHeld => ?_)
 clear hK K b1
 refine wTk 2 ⟨some 19, .unOp .not 4 (.tmp 18), 4, "ref.go:136", #[⟨1, .data⟩], none⟩ rfl ?_
 refine wTk 3 ⟨some 20, .move (.tmp 19), 4, "ref.go:136", #[⟨2, .data⟩, ⟨1, .chain⟩], none⟩ rfl ?_
 refine wTk 4 ⟨some 21, .load 26 (.tmp 6), 26, "ref.go:136", #[⟨3, .guard⟩], some (3, false)⟩ rfl ?_
 refine wpAnyH_ready (rs := [5]) (by kernel_rfl) (by simp) (.cons rfl (fun K hK => ?_) .nil)
 go_simp
 go_wp2_with fail
 refine (refIsNorm_any p _ (HP.out.below HB1.out)).mono ?_
 rintro e w2 ⟨b, rfl, hb, b2⟩
 obtain rfl : b = true := by
  exact hb.out.2 HI.out
 have HB2 := hide (HB1.out.trans (b2.mono HB1.out.size))
 refine hK.out _ _ (run_ldP (HX.out.below HB2.out).at) (fun hHeld => ?_)
 clear hK K hb b2
 refine wTk 6 ⟨some 23, .unOp .not 4 (.tmp 22), 4, "ref.go:136", #[⟨5, .data⟩, ⟨3, .guard⟩], some (3, false)⟩ rfl ?_
 refine wTk 7 ⟨some 24, .pick (.tmp 20) (.const (.bool true)) (.tmp 23), 4, "ref.go:136", #[⟨3, .data⟩, ⟨6, .data⟩], none⟩ rfl ?_
 refine wTk 8 ⟨some 25, .move (.tmp 24), 4, "ref.go:136", #[⟨7, .data⟩, ⟨5, .chain⟩], none⟩ rfl ?_
 refine wTk 9 ⟨some 26, .move (.tmp 0), 22, "ref.go:136", #[⟨8, .guard⟩], some (8, false)⟩ rfl ?_
 refine wTk 11 ⟨some 28, .load 26 (.tmp 6), 26, "ref.go:136", #[⟨8, .guard⟩], some (8, false)⟩ rfl ?_
 refine wpAnyH_ready (rs := [10]) (by kernel_rfl) (by simp) (.cons rfl (fun K hK => ?_) .nil)
 go_simp
 go_wp2_with fail
 refine (refDots8_any ao n c L ⟨#[]⟩ (-1) _ (HS.out.below HB2.out)).mono ?_
 rw [ds_all]
 rintro e w3 ⟨p1, rfl, S3, n3, b3, C3⟩
 have HB3 := hide (HB2.out.trans (b3.mono HB2.out.size))
 have HS3 := hide S3
 have HC3 := hide C3
 refine hK.out _ _ (run_ldP (HX.out.below HB3.out).at) (fun hHeld => ?_)
 clear hK K b3 S3 n3 C3
 refine wpAnyH_ready (rs := [12]) (by kernel_rfl) (by simp) (.cons rfl (fun K hK => ?_) .nil)
 go_simp
 go_wp2_with fail
 refine (refWithin_any p1 p _ HS3.out (HP.out.below HB3.out)).mono ?_
 rintro e w4 ⟨b, rfl, hb, b4⟩
 obtain rfl : b = true := by
  exact hb.2 ((within_seen HC.out HC3.out).2 HSn.out.2.2)
 have HB4 := hide (HB3.out.trans (b4.mono HB3.out.size))
 refine hK.out _ _ (run_ldP (HX.out.below HB4.out).at) (fun hHeld => ?_)
 clear hK K hb b4 HC3 HS3
 refine wTk 13 ⟨some 30, .unOp .not 4 (.tmp 29), 4, "ref.go:136", #[⟨12, .data⟩, ⟨8, .guard⟩], some (8, false)⟩ rfl ?_
 refine wTk 14 ⟨some 31, .pick (.tmp 25) (.const (.bool true)) (.tmp 30), 4, "ref.go:136", #[⟨8, .data⟩, ⟨13, .data⟩], none⟩ rfl ?_
 refine wpAnyH_done (by kernel_rfl) ?_ _
 clear hHeld
 have hr1 : ¬ r < 0 := by have := HR.out.1; omega
 have hr2 : ¬ 16 ≤ r := by have := HR.out.2; omega
 have m1 := (HXl.out.below HB4.out).c0
 have m2 := (HXl.out.below HB4.out).c1
 dsimp only at m1 m2
 have hl1 : ¬ ln < 1 := by have := HLm.out.1; omega
 have hl2 : ¬ 1000 < ln := by have := HLm.out.2.1; omega
 have hl3 : ¬ ct < 1 := by have := HLm.out.2.2.1; omega
 have hl4 : ¬ 1000000000 < ct := by have := HLm.out.2.2.2; omega
 have la := run_ldAc (HXa.out.below HB4.out)
 go_wp2_with fail
 clear la m1 m2 hl1 hl2 hl3 hl4 hr1 hr2
 refine (refActCheck_any k s q a _ (HA.out.below HB4.out) HSs.out).mono ?_
 rintro e w5 ⟨z, rfl, hz, b5⟩
 have hz0 : z ≠ 0 := fun e => HN.out (by rw [e] at hz; exact hz)
 have HZ := hide hz
 have hzb : (z != 0) = true := by simp [hz0]
 have HZ0 := hide hz0
 clear hz0
 have HB5 := hide (HB4.out.trans (b5.mono HB4.out.size))
 clear hz b5
 have HXn := hide (HXf.out.below HB5.out)
 have tn : (stFa (.pointer (some ⟨G + 3, 0, none⟩)) (.agg (FaC (mkF fc0)))).run Tryz.prog w5 = .ok () (w5.setRow (G + 3) (FaC (mkF fc0))) := run_stFa (m' := mkF fc0) HXn.out
 have HE := hide (give_facts (w := w) (f := fc0) (er := z) (DeD L p.P r ln ct k s q a.P) HXn.out (fc0_ok _) (fc0_new _) (HBK.out.trans (HB5.out.mono HBK.out.size)) (by have := HG.out; omega) (.inr ⟨HSn.out, .inr ⟨HR.out, .inr ⟨HLm.out, .inl ⟨HZ.out, HZ0.out, fc0_no⟩⟩⟩⟩))
 go_wp2_with fail
 refine bodyPost_ret (res2Fa rfl rfl rfl HE.out.1) rfl ?_
 exact HE.out.2
end Go.Proofs.YtmbkmpeongodbaaGreat

