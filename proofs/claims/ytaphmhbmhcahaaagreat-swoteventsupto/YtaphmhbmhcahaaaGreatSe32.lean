/- ODt SXl HNa -/
import Derived.Test.YtaphmhbmhcahaaaGreatTk
import Derived.Test.YtaphmhbmhcahaaaGreatSe23
import Derived.Test.YtaphmhbmhcahaaaGreatSe22
import Derived.Test.YtaphmhbmhcahaaaGreatSe31
import Derived.Test.YtaphmhbmhcahaaaGreatSe24
import Derived.Test.YtaphmhbmhcahaaaGreatSe19
import Derived.Test.YtaphmhbmhcahaaaGreatSe00
set_option maxRecDepth 100000
set_option maxHeartbeats 3200000
namespace Go.Proofs.YtaphmhbmhcahaaaGreat
section
open Go.RowKit
attribute [local go_sem ↓] ldP_eq stP_eq ldD_eq stD_eq K.ld28_eq K.st28_eq
attribute [local go_sem] cells_PV PC_size
variable {w w' w2 W W' : World} {g : Nat}

def dotOf (e : K.En) : Rn := ⟨e.rep, e.num⟩
def DtA (w w' : World) (x : Ending) (L : List K.En) : Prop := Below w.heap.size w w' /\ ((K.chk L = 0 /\ ∃ p : Pv, x = .returned (.tuple #[PV p, .int .i64 0]) /\ PSrc w' p /\ PNew w.heap.size p /\ CanonOf (dotsG (L.map dotOf)) p.P) ∨ (¬ K.chk L = 0 /\ x = .returned (.tuple #[PV pv0, .int .i64 1])))
theorem res2Pn {fn : Func} {p q : Tmp} {m : Pv} {v : Value} (h : fn.results = #[.cell p 26, .tmp q]) {tmps : Array Value} (hp : tmps.getD p undef = .pointer (some ⟨g, 0, none⟩)) (hq : tmps.getD q undef = v) (A : PBox w g m) :
  (results fn tmps).run Tryz.prog w = .ok (.tuple #[PV m, v]) w := by
 have hl := run_lvP A.at
 simp only [results, h]
 rw [Array.getD_eq_getD_getElem?] at hp hq
 simp [hp, hq, asAddr, hl]
theorem dots_any (ao : Option Addr) (n cap : Nat) (L : List K.En) (w : World) (hS : K.ESrc w ao n cap L) : Calls Tryz.prog 52 #[.slice ao n cap] w fun x w' => DtA w w' x L := by
 have b1 := below_new w (.cells #[.slice none 0 0, .slice none 0 0] 26)
 have x1 : PBox (w.alloc (.cells #[.slice none 0 0, .slice none 0 0] 26)) w.heap.size pv0 := pbox_new w pv0
 obtain ⟨w1, hw1⟩ : ∃ w1, w.alloc (.cells #[.slice none 0 0, .slice none 0 0] 26) = w1 := ⟨_, rfl⟩
 obtain ⟨g1, hg1⟩ : ∃ g1, w.heap.size = g1 := ⟨_, rfl⟩
 rw [hw1] at b1 x1
 rw [hg1] at x1
 have HX : Hid (PBox w1 g1 pv0 /\ K.ESrc w1 ao n cap L /\ Below w.heap.size w w1 /\ w.heap.size = g1) := ⟨x1, hS.below b1, b1, hg1⟩
 have HL : Hid (L.length = n /\ n <= 3518437208883) := ⟨hS.1, hS.2.2.2.2⟩
 have hnb := HL.out.2
 clear b1 x1 hS
 go_enter Tryz.func52, Tryz.ntmps52
 go_wp2_with fail
 clear hw1 hg1
 refine (K.lcheck_any ao n cap L _ HX.out.2.1).mono ?_
 rintro x w2 ⟨rfl, b2⟩
 have HB2 := hide (HX.out.2.2.1.trans (b2.mono HX.out.2.2.1.size))
 have HX2 : Hid (PBox w2 g1 pv0 /\ K.ESrc w2 ao n cap L /\ w.heap.size = g1) := ⟨HX.out.1.below b2, HX.out.2.1.below b2, HX.out.2.2.2⟩
 clear b2 HX
 rcases K.chk_cases L with hc | hc
 rotate_left
 ·have HE : Hid (DtA w (w2.setRow g1 (PC pv0)) (.returned (.tuple #[PV pv0, .int .i64 1])) L) := ⟨below_setRow HB2.out (by have := HX2.out.2.2; omega), .inr ⟨by rw [hc]; decide, rfl⟩⟩
  have t6 : (stP (.pointer (some ⟨g1, 0, none⟩)) (.agg #[.slice none 0 0, .slice none 0 0])).run Tryz.prog w2 = .ok () (w2.setRow g1 (PC pv0)) := run_stP (p' := pv0) HX2.out.1
  have HX0 : Hid (PBox (w2.setRow g1 (PC pv0)) g1 pv0) := setRow_heap _ _ _ _ _ _ HX2.out.1
  rw [hc]
  clear hc
  go_wp2_with fail
  refine bodyPost_ret (res2Pn rfl rfl rfl HX0.out) rfl ?_
  exact HE.out
 ·rw [hc]
  have HC := hide hc
  clear hc
  go_wp2_with fail
  go_loopw [5, 16] (fun v i wr => ∃ (k : Nat) (ap : Option Addr) (c : Nat), k <= n /\ v = .slice ap k c /\ i = .int .i64 (k : Int) /\ Hid (OwnD w2.heap.size w2.heap.size w2 wr ap c ((L.take k).map dotOf))) (fun _ i _ => n - (intOf i).toNat)
  case atStart => exact ⟨0, none, 0, Nat.zero_le _, rfl, rfl, World.ownsRow_nil _ _ _ _, Below.refl _ _, Nat.le_refl _, Nat.le_refl _⟩
  case round =>
   obtain ⟨k, ap, c, hk, rfl, rfl, HO⟩ := hrel
   rename World => wr
   obtain ⟨acc, Hacc⟩ : ∃ acc, Hid ((L.take k).map dotOf = acc) := ⟨_, rfl⟩
   have Hal : Hid (acc.length = k) := by show _ = _; rw [<- Hacc.out, List.length_map, List.length_take]; have := HL.out.1; omega
   rw [Hacc.out] at HO
   by_cases hlt : k < n
   ·have hlti : (k : Int) < (n : Int) := by omega
    obtain ⟨ad, hao, A0⟩ := (HX2.out.2.1.below HO.out.below).at k hlt
    subst hao
    obtain ⟨e, He⟩ : ∃ e, Hid (L.getD k K.en0 = e) := ⟨_, rfl⟩
    rw [He.out] at A0
    have hld := K.run_ld28 A0
    have HT := hide (K.take_snoc L k (by rw [HL.out.1]; exact hlt))
    rw [He.out] at HT
    have HN : Hid ((L.take (k + 1)).map dotOf = acc ++ [dotOf e]) := by show _ = _; rw [HT.out, List.map_append, Hacc.out]; rfl
    obtain ⟨g7, hg7⟩ : ∃ g7, wr.heap.size = g7 := ⟨_, rfl⟩
    obtain ⟨w7, hst, X7, B7, -⟩ := K.made wr e g7 hg7
    replace hst : (K.st28 (.pointer (some ⟨g7, 0, none⟩)) (K.EV e)).run Tryz.prog (wr.alloc (.cells #[.int .i64 0, .int .i64 0, .string ⟨#[]⟩, .int .i64 0] 66)) = .ok () w7 := hst
    have HO7 := hide (HO.out.later B7)
    have l7 : (ldD (.pointer (some ⟨g7, 0, none⟩))).run Tryz.prog w7 = .ok (.agg #[.int .i64 e.rep, .int .i64 e.num]) w7 := run_ldD (enc_dot X7)
    have Hlt := hide hlt
    clear A0 X7 B7 hlt
    go_wp2_with (at_builtin; go_loud (refine (HO7.out.later (below_new w7 _)).appendS [dotOf e] (some ⟨w7.heap.size, 0, none⟩) 1 1 (lit_rsrc w7 [dotOf e] _ rfl 43 1 rfl (by omega)) (by have := Hal.out; have := Hlt.out; omega) rfl (.tmp 20) (.tmp 23) rfl k Hal.out rfl rfl ?_); intro ao8 c8 w8 O8; have HO8 := hide O8; clear O8)
    clear hst hg7 hld
    go_roundw
    case rel => exact ⟨k + 1, ao8, c8, Hlt.out, rfl, by simp, by show OwnD _ _ _ _ _ _ _; rw [HN.out]; exact HO8.out⟩
    case measure => simp [intOf]; have := Hlt.out; omega
   ·have hlti : ¬ (k : Int) < (n : Int) := by omega
    obtain rfl : k = n := by omega
    have HAc : Hid (acc = L.map dotOf) := by show _ = _; rw [<- Hacc.out, List.take_of_length_le (by have := HL.out.1; omega)]
    obtain ⟨hsr, hnw⟩ := HO.out.src (by have := Hal.out; omega)
    have hsr2 : RSrc wr ap k c acc := by have := Hal.out; rw [this] at hsr; exact hsr
    have HC7 := hide (pastOfN_any ap k c acc wr hsr2)
    have HBr := hide (HB2.out.trans (HO.out.below.mono HB2.out.size))
    have HXr := hide (HX2.out.1.below HO.out.below)
    have HG : Hid (w.heap.size = g1 /\ g1 < wr.heap.size) := ⟨HX2.out.2.2, HXr.out.lt⟩
    clear hsr hnw hsr2
    go_wp2_with fail
    refine HC7.out.mono ?_
    rintro x w8 ⟨p, rfl, S8, n8, b8, c8⟩
    have X8 := HXr.out.below b8
    have t8 := run_stP (p' := p) X8
    have HX8 : Hid (PBox (w8.setRow g1 (PC p)) g1 p) := setRow_heap _ _ _ _ _ _ X8
    have HE : Hid (DtA w (w8.setRow g1 (PC p)) (.returned (.tuple #[PV p, .int .i64 0])) L) := by
     have hb := HBr.out.trans (b8.mono HBr.out.size)
     refine ⟨below_setRow hb (by have := HG.out; omega), .inl ⟨HC.out, p, rfl, psrc_off S8 (fun ad h => setRow_other _ _ _ _ (by have := n8.1 ad h; have := HG.out; omega)) (fun ad h => setRow_other _ _ _ _ (by have := n8.2 ad h; have := HG.out; omega)), n8.mono (by have := HG.out; omega), by rw [<- HAc.out]; exact c8⟩⟩
    clear S8 n8 b8 c8 X8 HC7
    go_wp2_with fail
    refine bodyPost_ret (res2Pn rfl rfl rfl HX8.out) rfl ?_
    exact HE.out
end
section
open Go.RowKit
attribute [local go_sem ↓] ldP_eq stP_eq ldFa_eq stFa_eq ldD_eq stD_eq K.ld28_eq K.st28_eq
attribute [local go_sem] cells_PV PC_size cells_FaV FaC_size zero_FaZ cells_RV RC_size zero_RC fold_RC K.zero_EC K.cells_EV K.EC_size K.fold_EC
theorem takeE3 (L : List K.En) (k : Nat) (h : k < L.length) : L.take (k + 1) = L.take k ++ [L.getD k K.en0] := by
 rw [List.take_succ_eq_append_getElem h]; simp [List.getD, h]
def LvS (w w' : World) (x : Ending) (L : List K.En) : Prop := ∃ ao n c, x = .returned (.slice ao n c) /\ K.ESrc w' ao n c L /\ Below w.heap.size w w'
theorem refLive11_one (f : Fc) (w : World) (hF : FcOk w f) (hO : ∀ k, k < f.an -> f.rn = 0 /\ inB f.p.P (f.es.getD k K.en0) = false) : Calls Tryz.prog 65 #[FaV (mkF f)] w fun x w' => LvS w w' x f.es := by
 have b1 := below_new w (.cells (FaC (mkF f)) 59)
 have X1 := FaBox_new w (mkF f)
 obtain ⟨wk, hwk⟩ : ∃ w1, w.alloc (.cells (FaC (mkF f)) 59) = w1 := ⟨_, rfl⟩
 rw [hwk] at b1 X1
 obtain ⟨G, hG0⟩ : ∃ G, w.heap.size = G := ⟨_, rfl⟩
 rw [hG0] at X1
 have HX := hide X1
 have HBK := hide b1
 have HF := hide (hF.below b1)
 have HOn := hide hO
 clear hF b1 X1 hO
 go_enter Tryz.func65, Tryz.ntmps65
 obtain ⟨n, hn⟩ : ∃ n, f.an = n := ⟨_, rfl⟩
 obtain ⟨ao, hao⟩ : ∃ a, f.ao = a := ⟨_, rfl⟩
 obtain ⟨ac, hac⟩ : ∃ a, f.ac = a := ⟨_, rfl⟩
 have HS : Hid (K.ESrc wk ao n ac f.es) := by rw [<- hn, <- hao, <- hac]; exact HF.out.es
 have HCs : Hid (∀ W, Below wk.heap.size wk W -> W.cell? ⟨G, 0, none⟩ = some (.slice ao n ac)) := fun W h => by rw [<- hn, <- hao, <- hac]; exact (HX.out.below h).cs.1
 have HLn : Hid (f.es.length = n) := HS.out.1
 have hnb := HS.out.2.2.2.2
 rw [hn] at HOn
 go_wp2_with fail
 clear hn hao hac hwk hG0
 go_loopw [3, 4, 5, 6] (fun v i _ _ wr => ∃ (k : Nat) (ap : Option Addr) (c2 : Nat) (acc : List K.En), k <= n /\ v = .slice ap acc.length c2 /\ i = .int .i64 (k : Int) /\ Hid (acc = f.es.take k /\ K.OwnE wk.heap.size wk.heap.size wk wr ap c2 acc)) (fun _ i _ _ _ => n - (intOf i).toNat)
 case atStart => exact ⟨0, none, 0, [], Nat.zero_le _, rfl, rfl, rfl, K.OwnE.nil (Below.refl _ _) (Nat.le_refl _) (Nat.le_refl _)⟩
 case round =>
  obtain ⟨k, ap, c2, acc, hk, rfl, rfl, HO⟩ := hrel
  rename World => wr
  have c0 := HCs.out _ HO.out.2.below
  by_cases hlt : k < n
  ·have hlti : (k : Int) < (n : Int) := by omega
   have hal : acc.length <= k := by
    rw [HO.out.1, List.length_take]; omega
   have halb : acc.length < 3518437208883 := by omega
   obtain ⟨hr0, hno⟩ := HOn.out k hlt
   have HT := hide (takeE3 f.es k (by rw [HLn.out]; exact hlt))
   obtain ⟨ad, hao, A0⟩ := (HS.out.below HO.out.2.below).at k hlt
   subst hao
   obtain ⟨e, He⟩ : ∃ e, Hid (f.es.getD k K.en0 = e) := ⟨_, rfl⟩
   rw [He.out] at HT hno
   have Hlt := hide hlt
   have HNo := hide hno
   have HEn : Hid (∀ W, Below wk.heap.size wk W -> K.EnAt W (ad.add (k * 4)) e) := fun W hW => by
    obtain ⟨ad', he', h⟩ := (HS.out.below hW).at k Hlt.out
    obtain rfl := Option.some.inj he'
    rw [He.out] at h
    exact h
   have HSt : Hid (∀ W, Below wk.heap.size wk W -> W.cell? ⟨G, 0, none⟩ = some (.slice (some ad) n ac) /\ (ldP (.pointer (some ⟨G, 1, none⟩))).run Tryz.prog W = .ok (PV f.p) W /\ (ldD (.pointer (some (ad.add (k * 4))))).run Tryz.prog W = .ok (RV (dotOf e)) W) := fun W hW => by
    have A := HEn.out W hW
    exact ⟨HCs.out _ hW, run_ldP (HX.out.below hW).past, run_ldD (r := dotOf e) ⟨A.c0, A.c1⟩⟩
   have HC3 : Hid (∀ W, Below wk.heap.size wk W -> W.cell? ⟨G, 3, none⟩ = some (.slice f.ro 0 f.rc)) := fun W hW => by
    have h := (HX.out.below hW).cs.2
    rw [hr0] at h
    exact h
   have HO1 := hide (HO.out.2.later (below_drew1 wr))
   have Hacc : Hid (acc ++ [e] = f.es.take (k + 1)) := by
    have h1 := HT.out
    rw [<- HO.out.1] at h1
    exact h1.symm
   clear A0 hlt hk hr0 hno HO
   go_upto_region 5 with fail
   refine wp_region_held_drew (S := fun W => W.cell? ⟨G, 0, none⟩ = some (.slice (some ad) n ac) /\ (ldP (.pointer (some ⟨G, 1, none⟩))).run Tryz.prog W = .ok (PV f.p) W /\ (ldD (.pointer (some (ad.add (k * 4))))).run Tryz.prog W = .ok (RV (dotOf e)) W) (by kernel_rfl) (HSt.out _ HO1.out.below) (fun hHeld => ?_)
   refine wTk 0 ⟨some 14, .fieldAddr 59 (.tmp 1) 1, 0, "ref.go:139", #[], none⟩ rfl ?_
   refine wTk 1 ⟨some 15, .load 26 (.tmp 14), 26, "ref.go:139", #[⟨0, .data⟩], none⟩ rfl ?_
   refine wTk 2 ⟨some 16, .fieldAddr 59 (.tmp 1) 0, 0, "ref.go:139", #[], none⟩ rfl ?_
   refine wTk 3 ⟨some 17, .load 22 (.tmp 16), 22, "ref.go:139", #[⟨2, .data⟩], none⟩ rfl ?_
   refine wTk 4 ⟨some 18, .move (.tmp 4), 3, "ref.go:139", #[], none⟩ rfl ?_
   refine wTk 5 ⟨some 19, .indexAddr 22 (.tmp 17) (.tmp 18), 0, "ref.go:139", #[⟨3, .data⟩, ⟨4, .data⟩], none⟩ rfl ?_
   refine wTk 6 ⟨some 20, .fieldAddr 66 (.tmp 19) 0, 0, "ref.go:139", #[⟨5, .data⟩], none⟩ rfl ?_
   refine wTk 7 ⟨some 21, .load 43 (.tmp 20), 43, "ref.go:139", #[⟨6, .data⟩], none⟩ rfl ?_
   refine wpAnyH_ready (rs := [8]) (by kernel_rfl) (by simp) (.cons rfl (fun K hK => ?_) .nil)
   go_simp
   go_wp2_with fail
   refine (refHas_any f.p (dotOf e) _ (HF.out.p.below HO1.out.below)).mono ?_
   rintro x w5 ⟨y, rfl, hy, b5⟩
   have hyb : y = inB f.p.P e := by rw [Bool.eq_iff_iff, inB_iff]; exact hy
   obtain rfl : y = false := by rw [hyb, HNo.out]
   have HO5 := hide (HO1.out.later b5)
   clear hy hyb b5
   refine hK.out _ _ (HSt.out _ HO5.out.below) (fun hHeld => ?_)
   clear hK K
   refine wTk 9 ⟨some 23, .unOp .not 4 (.tmp 22), 4, "ref.go:139", #[⟨8, .data⟩], none⟩ rfl ?_
   refine wTk 10 ⟨some 5, .assign (.tmp 23), 4, "ref.go:139", #[⟨9, .data⟩, ⟨8, .chain⟩, ⟨0, .phase⟩, ⟨1, .phase⟩, ⟨2, .phase⟩, ⟨3, .phase⟩, ⟨4, .phase⟩, ⟨5, .phase⟩, ⟨6, .phase⟩, ⟨7, .phase⟩, ⟨8, .phase⟩, ⟨9, .phase⟩], none⟩ rfl ?_
   refine wpAnyH_done (by kernel_rfl) ?_ _
   clear hHeld
   clear c0
   go_wp2_with fail
   go_loopw [5, 6] (fun l j wq => l = .bool true /\ j = .int .i64 0 /\ Hid (K.OwnE wk.heap.size wk.heap.size wk wq ap c2 acc)) (fun _ _ _ => 0)
   case atStart => exact ⟨rfl, rfl, HO5.out⟩
   case round =>
    obtain ⟨rfl, rfl, HO6⟩ := hrel
    rename World => wq
    have c0 := HCs.out _ HO6.out.below
    have c3 := HC3.out _ HO6.out.below
    have l6 := K.run_ld28 (HEn.out _ HO6.out.below)
    have hlt2 : (k : Int) < (n : Int) := by have := Hlt.out; omega
    go_wp2_with (at_builtin; refine HO6.out.append e _ rfl halb rfl (.tmp 47) (.tmp 53) rfl acc.length rfl rfl rfl ?_; intro g6 c6 w7 O7 hk7; have HO7 := hide O7; clear O7 hk7)
    clear l6 c3
    go_roundw
    case rel => exact ⟨k + 1, some ⟨g6, 0, none⟩, c6, acc ++ [e], Hlt.out, by simp, by have := Hlt.out; simp, Hacc.out, HO7.out⟩
    case measure => simp [intOf]; have := Hlt.out; omega
  ·have hlti : ¬ (k : Int) < (n : Int) := by omega
   have HE : Hid (LvS w wr (.returned (.slice ap acc.length c2)) f.es) := by
    obtain ⟨h1, h2⟩ := HO.out
    have h3 : acc = f.es := by rw [h1, List.take_of_length_le (by rw [HLn.out]; omega)]
    obtain ⟨S9, -⟩ := h2.src (fun e he => HS.out.2.2.2.1 e (by rw [<- h3]; exact he)) (by
     have h4 : acc.length = n := by rw [h3]; exact HLn.out
     omega)
    rw [h3] at S9
    exact ⟨ap, f.es.length, c2, by rw [h3], S9, HBK.out.trans (h2.below.mono HBK.out.size)⟩
   clear HO
   go_wp2_with fail
   go_ret
   exact HE.out
end
section
open Go.RowKit

theorem SBox.sn {w : World} {g : Nat} {s : Sn} (h : SBox w g s) : SnAt w ⟨g, 0, none⟩ s := ⟨h.at.1, by rw [Addr.add_lit]; exact h.at.2.1, by rw [Addr.add_lit]; exact h.at.2.2⟩
theorem nrS_any (s t : Sn) (w : World) : Calls Tryz.prog 171 #[SV s, SV t] w fun e w' => e = .returned (.int .i64 (nrC s ⟨t.rep, t.hi⟩)) /\ Below w.heap.size w w' := by
 have b1 := below_new w (.cells (SC s) 122)
 have x1 := sbox_new w s
 have s1 := World.size_alloc w (.cells (SC s) 122)
 obtain ⟨w1, hw1⟩ : ∃ w1, w.alloc (.cells (SC s) 122) = w1 := ⟨_, rfl⟩
 obtain ⟨g1, hg1⟩ : ∃ g1, w.heap.size = g1 := ⟨_, rfl⟩
 rw [hw1] at b1 x1 s1
 rw [hg1] at x1 s1
 have b2 := below_new w1 (.cells (SC t) 122)
 have x2 := sbox_new w1 t
 obtain ⟨w2, hw2⟩ : ∃ w2, w1.alloc (.cells (SC t) 122) = w2 := ⟨_, rfl⟩
 rw [hw2] at b2 x2
 rw [s1] at x2
 have HB := hide (b1.trans (b2.mono b1.size))
 have HX : Hid (SBox w2 g1 s /\ SBox w2 (g1 + 1) t) := ⟨x1.below b2, x2⟩
 have HSt : Hid (∀ W, Below w2.heap.size w2 W -> W.cell? ⟨g1, 0, none⟩ = some (.int .i64 s.rep) /\ W.cell? ⟨g1, 2, none⟩ = some (.int .i64 s.hi) /\ W.cell? ⟨g1 + 1, 0, none⟩ = some (.int .i64 t.rep) /\ W.cell? ⟨g1 + 1, 2, none⟩ = some (.int .i64 t.hi)) := fun W hW => by
  obtain ⟨c0, -, c2⟩ := (HX.out.1.below hW).at
  have hd := (HX.out.2.below hW).at
  exact ⟨c0, c2, hd.1, hd.2.2⟩
 obtain ⟨p, Hp⟩ : ∃ p, Hid (cmpI s.rep t.rep = p) := ⟨_, rfl⟩
 obtain ⟨q, Hq⟩ : ∃ q, Hid (cmpI s.hi t.hi = q) := ⟨_, rfl⟩
 have HR : Hid (nrC s ⟨t.rep, t.hi⟩ = or2 p q) := by show _ = _; unfold nrC; rw [Hp.out, Hq.out]
 clear b1 b2 x1 x2
 go_enter Tryz.func171, Tryz.ntmps171
 go_wp2_with fail
 clear hw1 hw2 s1 hg1
 refine wp_region_held_drew (S := fun W => W.cell? ⟨g1, 0, none⟩ = some (.int .i64 s.rep) /\ W.cell? ⟨g1, 2, none⟩ = some (.int .i64 s.hi) /\ W.cell? ⟨g1 + 1, 0, none⟩ = some (.int .i64 t.rep) /\ W.cell? ⟨g1 + 1, 2, none⟩ = some (.int .i64 t.hi)) (by kernel_rfl) (HSt.out _ (below_drew1 w2)) (fun hHeld => ?_)
 refine wTk 0 ⟨some 5, .fieldAddr 122 (.tmp 2) 0, 0, "records.go:119", #[], none⟩ rfl ?_
 refine wTk 1 ⟨some 6, .load 3 (.tmp 5), 3, "records.go:119", #[⟨0, .data⟩], none⟩ rfl ?_
 refine wTk 2 ⟨some 7, .fieldAddr 122 (.tmp 3) 0, 0, "records.go:119", #[], none⟩ rfl ?_
 refine wTk 3 ⟨some 8, .load 3 (.tmp 7), 3, "records.go:119", #[⟨2, .data⟩], none⟩ rfl ?_
 refine wTk 5 ⟨some 10, .fieldAddr 122 (.tmp 2) 2, 0, "records.go:119", #[], none⟩ rfl ?_
 refine wTk 6 ⟨some 11, .load 3 (.tmp 10), 3, "records.go:119", #[⟨5, .data⟩], none⟩ rfl ?_
 refine wTk 7 ⟨some 12, .fieldAddr 122 (.tmp 3) 2, 0, "records.go:119", #[], none⟩ rfl ?_
 refine wTk 8 ⟨some 13, .load 3 (.tmp 12), 3, "records.go:119", #[⟨7, .data⟩], none⟩ rfl ?_
 refine wpAnyH_ready (rs := [4]) (by kernel_rfl) (by simp) (.cons rfl (fun K hK => ?_) .nil)
 go_simp
 go_wp2_with fail
 refine (cmp_any s.rep t.rep _).mono ?_
 rintro e w' ⟨rfl, rfl⟩
 rw [Hp.out]
 refine hK.out _ _ (HSt.out _ (below_drew1 w2)) (fun hHeld => ?_)
 clear hK K
 refine wpAnyH_ready (rs := [9]) (by kernel_rfl) (by simp) (.cons rfl (fun K hK => ?_) .nil)
 go_simp
 go_wp2_with fail
 refine (cmp_any s.hi t.hi _).mono ?_
 rintro e w' ⟨rfl, rfl⟩
 rw [Hq.out]
 refine hK.out _ _ (HSt.out _ (below_drew1 w2)) (fun hHeld => ?_)
 clear hK K
 have HB3 := hide ((below_drew1 w2).trans (below_new w2.drew (.cells #[.int .i64 p, .int .i64 q] 3)))
 have HO := hide (or2_new p q w2.drew w2.heap.size rfl)
 refine wpAnyH_ready (rs := [10]) (by kernel_rfl) (by simp) (.cons rfl (fun K hK => ?_) .nil)
 go_simp
 refine hK.out _ _ (HSt.out _ HB3.out) (fun hHeld => ?_)
 clear hK K
 refine wpAnyH_ready (rs := [11]) (by kernel_rfl) (by simp) (.cons rfl (fun K hK => ?_) .nil)
 go_simp
 go_wp2_with fail
 refine HO.out.mono ?_
 rintro e w' ⟨rfl, rfl⟩
 refine hK.out _ _ (HSt.out _ HB3.out) (fun hHeld => ?_)
 clear hK K
 refine wTk 12 ⟨some 4, .assign (.tmp 16), 3, "records.go:119", #[⟨11, .data⟩, ⟨11, .chain⟩, ⟨0, .phase⟩, ⟨1, .phase⟩, ⟨2, .phase⟩, ⟨3, .phase⟩, ⟨4, .phase⟩, ⟨5, .phase⟩, ⟨6, .phase⟩, ⟨7, .phase⟩, ⟨8, .phase⟩, ⟨9, .phase⟩, ⟨10, .phase⟩, ⟨11, .phase⟩], none⟩ rfl ?_
 refine wpAnyH_done (by kernel_rfl) ?_ _
 clear hHeld
 go_wp2_with fail
 go_ret
 exact ⟨ret_int HR.out.symm, HB.out.trans (HB3.out.mono HB.out.size)⟩
end
end Go.Proofs.YtaphmhbmhcahaaaGreat
