/- SXq PVw LView -/
import Derived.Test.YtaphmhbmhcahaaaGreatTk
import Derived.Test.YtaphmhbmhcahaaaGreatSe31
import Derived.Test.YtaphmhbmhcahaaaGreatSe11
import Derived.Test.YtaphmhbmhcahaaaGreatSe24
import Derived.BigFrame
import Derived.Test.YtaphmhbmhcahaaaGreatSe00
import Derived.ProofKit
import Derived.OpenShut
import Derived.Lib.SmallJoins
import Derived.HandedShaped
import Derived.SizedLaws
import Derived.ChangeMaps5
import Derived.JoinedCond
import Derived.Test.YtaphmhbmhcahaaaGreatSe17
set_option maxRecDepth 100000
set_option maxHeartbeats 6400000
namespace Go.Proofs.YtaphmhbmhcahaaaGreat
section
open Go.RowKit
theorem plR_get {L M : List Rc} (h : plR L = plR M) (k : Nat) : (L.getD k rc0).s = (M.getD k rc0).s /\ (L.getD k rc0).p.P = (M.getD k rc0).p.P := by
 have e : ∀ X : List Rc, ((X.getD k rc0).s, (X.getD k rc0).p.P) = (plR X).getD k (rc0.s, rc0.p.P) := fun X => by
  unfold plR
  rw [List.getD_eq_getElem?_getD, List.getD_eq_getElem?_getD, List.getElem?_map]
  cases X[k]? <;> rfl
 have h1 := (e L).trans ((congrArg (fun X => X.getD k (rc0.s, rc0.p.P)) h).trans (e M).symm)
 exact ⟨congrArg Prod.fst h1, congrArg Prod.snd h1⟩
theorem box2S (w : World) (f g : Fc) : ∃ wk, (w.alloc (.cells (FaC (mkF f)) 29)).alloc (.cells (FaC (mkF g)) 29) = wk /\ Hid (SwBox wk w.heap.size (mkF f)) /\ Hid (SwBox wk (w.heap.size + 1) (mkF g)) /\ Hid (Below w.heap.size w wk) := by
 have b1 := below_new w (.cells (FaC (mkF f)) 29)
 have b2 := below_new (w.alloc (.cells (FaC (mkF f)) 29)) (.cells (FaC (mkF g)) 29)
 have X2 := SwBox_new (w.alloc (.cells (FaC (mkF f)) 29)) (mkF g)
 rw [World.size_alloc] at X2
 exact ⟨_, rfl, (SwBox_new w (mkF f)).below b2, X2, b1.trans (b2.mono b1.size)⟩
def EqS (f g : Fc) : Prop := f.es = g.es /\ f.p.P = g.p.P /\ plR f.rs = plR g.rs
attribute [local go_sem ↓] ldP_eq stP_eq ldSw_eq stSw_eq K.ld28_eq K.st28_eq K.run_eq28
attribute [local go_sem] cells_PV PC_size cells_FaV FaC_size K.eqE_self K.zero_EC K.cells_EV
theorem equal11_true (a b : Fc) (w : World) (hF : FcOk w a) (hG : FcOk w b) (hE : EqS a b) : Calls Tryz.prog 12 #[FaV (mkF a), FaV (mkF b)] w fun e w' => e = .returned (.bool true) /\ Below w.heap.size w w' := by
 obtain ⟨wk, hwk, HX, HY, HBK⟩ := box2S w a b
 obtain ⟨G, hG0⟩ : ∃ G, w.heap.size = G := ⟨_, rfl⟩
 rw [hG0] at HX HY
 have HS := hide (hF.below HBK.out)
 have HR := hide (hG.below HBK.out)
 have HE := hide hE
 have hna : b.an = a.an := by rw [<- HS.out.es.1, <- HR.out.es.1, hE.1]
 have hnr : b.rn = a.rn := by
  have h1 := congrArg List.length hE.2.2
  rw [plR_len, plR_len, HS.out.rs.len, HR.out.rs.len] at h1
  exact h1.symm
 obtain ⟨n, hn⟩ : ∃ n, a.an = n := ⟨_, rfl⟩
 obtain ⟨m, hm⟩ : ∃ n, a.rn = n := ⟨_, rfl⟩
 rw [hn] at hna
 rw [hm] at hnr
 clear hF hG hE
 have HC : Hid (∀ W, Below wk.heap.size wk W -> (W.cell? ⟨G, 0, none⟩ = some (.slice a.ao n a.ac) /\ W.cell? ⟨G, 3, none⟩ = some (.slice a.ro m a.rc)) /\ W.cell? ⟨G + 1, 0, none⟩ = some (.slice b.ao n b.ac) /\ W.cell? ⟨G + 1, 3, none⟩ = some (.slice b.ro m b.rc)) := fun W h => by
  have h1 := (HX.out.below h).cs
  have h2 := (HY.out.below h).cs
  rw [hn, hm] at h1
  rw [hna, hnr] at h2
  exact ⟨h1, h2⟩
 have HSe : Hid (K.ESrc wk a.ao n a.ac a.es /\ K.ESrc wk b.ao n b.ac a.es) := ⟨by rw [<- hn]; exact HS.out.es, by rw [HE.out.1, <- hna]; exact HR.out.es⟩
 have HSr : Hid (RcS wk a.ro m a.rc a.rs /\ RcS wk b.ro m b.rc b.rs) := ⟨by rw [<- hm]; exact HS.out.rs, by rw [<- hnr]; exact HR.out.rs⟩
 have hbn := HSe.out.1.2.2.2.2
 have hbm := HSr.out.1.big
 clear hn hm hna hnr
 obtain ⟨⟨c0, c3⟩, d0, d3⟩ := HC.out _ (Below.refl _ _)
 have lp := run_ldP HX.out.past
 have lq := run_ldP HY.out.past
 go_enter Tryz.func12, Tryz.ntmps12
 go_wp2_with fail
 clear hwk hG0 lp lq c0 c3 d0 d3
 refine (samePast_any a.p b.p _ HS.out.p HR.out.p).mono ?_
 rintro e w2 ⟨v, rfl, hv, b2⟩
 obtain rfl : v = true := hv.2 HE.out.2.1
 have HB2 := hide b2
 obtain ⟨⟨c0, c3⟩, d0, d3⟩ := HC.out _ b2
 clear hv b2
 go_wp2_with fail
 clear c0 c3 d0 d3
 go_loopw [5] (fun i wr => ∃ k : Nat, k <= n /\ i = .int .i64 (k : Int) /\ Hid (Below wk.heap.size wk wr)) (fun i _ => n - (intOf i).toNat)
 case atStart => exact ⟨0, Nat.zero_le _, rfl, HB2.out⟩
 case round =>
  obtain ⟨k, hk, rfl, HK⟩ := hrel
  rename World => wr
  obtain ⟨⟨c0, c3⟩, d0, d3⟩ := HC.out _ HK.out
  by_cases hlt : k < n
  ·have hlti : (k : Int) < (n : Int) := by omega
   obtain ⟨ad, hao, -⟩ := HSe.out.1.at k hlt
   obtain ⟨bd, hbo, -⟩ := HSe.out.2.at k hlt
   obtain ⟨e, He⟩ : ∃ e, Hid (a.es.getD k K.en0 = e) := ⟨_, rfl⟩
   have Hlt := hide hlt
   have HSt : Hid (∀ W, Below wk.heap.size wk W -> (W.cell? ⟨G, 0, none⟩ = some (.slice (some ad) n a.ac) /\ W.cell? ⟨G + 1, 0, none⟩ = some (.slice (some bd) n b.ac)) /\ (K.ld28 (.pointer (some (ad.add (k * 4))))).run Tryz.prog W = .ok (K.EV e) W /\ (K.ld28 (.pointer (some (bd.add (k * 4))))).run Tryz.prog W = .ok (K.EV e) W) := fun W hW => by
    have hc := HC.out W hW
    rw [hao, hbo] at hc
    obtain ⟨ad', ea, A⟩ := (HSe.out.1.below hW).at k Hlt.out
    obtain ⟨bd', eb, B⟩ := (HSe.out.2.below hW).at k Hlt.out
    rw [hao] at ea
    rw [hbo] at eb
    obtain rfl := Option.some.inj ea
    obtain rfl := Option.some.inj eb
    rw [He.out] at A B
    exact ⟨⟨hc.1.1, hc.2.1⟩, K.run_ld28 A, K.run_ld28 B⟩
   clear hlt hk
   rw [hao] at c0
   rw [hbo] at d0
   clear hao hbo
   go_upto_region 6 with fail
   refine wp_region_held_drew (S := fun W => (W.cell? ⟨G, 0, none⟩ = some (.slice (some ad) n a.ac) /\ W.cell? ⟨G + 1, 0, none⟩ = some (.slice (some bd) n b.ac)) /\ (K.ld28 (.pointer (some (ad.add (k * 4))))).run Tryz.prog W = .ok (K.EV e) W /\ (K.ld28 (.pointer (some (bd.add (k * 4))))).run Tryz.prog W = .ok (K.EV e) W) (by kernel_rfl) (HSt.out _ (HK.out.trans ((below_drew1 wr).mono HK.out.size))) (fun hHeld => ?_)
   refine wTk 0 ⟨some 38, .fieldAddr 29 (.tmp 2) 0, 0, "ref.go:194", #[], none⟩ rfl ?_
   refine wTk 1 ⟨some 39, .load 22 (.tmp 38), 22, "ref.go:194", #[⟨0, .data⟩], none⟩ rfl ?_
   refine wTk 2 ⟨some 40, .move (.tmp 5), 3, "ref.go:194", #[], none⟩ rfl ?_
   refine wTk 3 ⟨some 41, .indexAddr 22 (.tmp 39) (.tmp 40), 0, "ref.go:194", #[⟨1, .data⟩, ⟨2, .data⟩], none⟩ rfl ?_
   refine wTk 4 ⟨some 42, .load 66 (.tmp 41), 66, "ref.go:194", #[⟨3, .data⟩], none⟩ rfl ?_
   refine wTk 5 ⟨some 43, .fieldAddr 29 (.tmp 3) 0, 0, "ref.go:194", #[], none⟩ rfl ?_
   refine wTk 6 ⟨some 44, .load 22 (.tmp 43), 22, "ref.go:194", #[⟨5, .data⟩], none⟩ rfl ?_
   refine wTk 7 ⟨some 45, .move (.tmp 5), 3, "ref.go:194", #[], none⟩ rfl ?_
   refine wTk 8 ⟨some 46, .indexAddr 22 (.tmp 44) (.tmp 45), 0, "ref.go:194", #[⟨6, .data⟩, ⟨7, .data⟩], none⟩ rfl ?_
   refine wTk 9 ⟨some 47, .load 66 (.tmp 46), 66, "ref.go:194", #[⟨8, .data⟩], none⟩ rfl ?_
   refine wTk 10 ⟨some 48, .binOp .neq 66 (.tmp 42) (.tmp 47) 66, 4, "ref.go:194", #[⟨4, .data⟩, ⟨9, .data⟩], none⟩ rfl ?_
   refine wpAnyH_done (by kernel_rfl) ?_ _
   clear hHeld
   clear c0 c3 d0 d3
   go_wp2_with fail
   go_roundw
   case rel => exact ⟨k + 1, Hlt.out, by have := Hlt.out; simp, HK.out.trans ((below_drew1 wr).mono HK.out.size)⟩
   case measure => simp [intOf]; have := Hlt.out; omega
  ·have hlti : ¬ (k : Int) < (n : Int) := by omega
   clear hlt hk
   go_wp2_with fail
   clear c0 c3 d0 d3
   go_loopw [6] (fun i wr => ∃ k : Nat, k <= m /\ i = .int .i64 (k : Int) /\ Hid (Below wk.heap.size wk wr)) (fun i _ => m - (intOf i).toNat)
   case atStart => exact ⟨0, Nat.zero_le _, rfl, HK.out⟩
   case round =>
    clear HK hlti
    obtain ⟨k, hk, rfl, HK⟩ := hrel
    rename World => wr
    obtain ⟨⟨c0, c3⟩, d0, d3⟩ := HC.out _ HK.out
    by_cases hlt : k < m
    ·have hlti : (k : Int) < (m : Int) := by omega
     obtain ⟨ad, hao, -⟩ := HSr.out.1.at k hlt
     obtain ⟨bd, hbo, -⟩ := HSr.out.2.at k hlt
     obtain ⟨b1, o1, rfl⟩ : ∃ b1 o1, ad = ⟨b1, o1, none⟩ := by
      have h := HSr.out.1
      rw [hao] at h
      exact h.spot (by omega)
     obtain ⟨b2, o2, rfl⟩ : ∃ b2 o2, bd = ⟨b2, o2, none⟩ := by
      have h := HSr.out.2
      rw [hbo] at h
      exact h.spot (by omega)
     obtain ⟨x, Hx⟩ : ∃ x, Hid (a.rs.getD k rc0 = x) := ⟨_, rfl⟩
     obtain ⟨y, Hy⟩ : ∃ y, Hid (b.rs.getD k rc0 = y) := ⟨_, rfl⟩
     have HXY : Hid (x.s = y.s /\ x.p.P = y.p.P) := by
      have h := plR_get HE.out.2.2 k
      rw [Hx.out, Hy.out] at h
      exact h
     have hsb : (x.s.toList == y.s.toList) = true := by rw [HXY.out.1]; simp
     have Hlt := hide hlt
     have HSo : Hid (∀ W, Below wk.heap.size wk W -> PSrc W x.p /\ PSrc W y.p) := fun W hW => by
      have h1 := (HSr.out.1.below hW).okAt k Hlt.out
      have h2 := (HSr.out.2.below hW).okAt k Hlt.out
      rw [Hx.out] at h1
      rw [Hy.out] at h2
      exact ⟨h1.1, h2.1⟩
     have HSt : Hid (∀ W, Below wk.heap.size wk W -> (W.cell? ⟨G, 3, none⟩ = some (.slice (some ⟨b1, o1, none⟩) m a.rc) /\ W.cell? ⟨G + 1, 3, none⟩ = some (.slice (some ⟨b2, o2, none⟩) m b.rc)) /\ (W.cell? ⟨b1, o1 + k * 3, none⟩ = some (.string x.s) /\ W.cell? ⟨b2, o2 + k * 3, none⟩ = some (.string y.s)) /\ (ldP (.pointer (some ⟨b1, o1 + k * 3 + 1, none⟩))).run Tryz.prog W = .ok (PV x.p) W /\ (ldP (.pointer (some ⟨b2, o2 + k * 3 + 1, none⟩))).run Tryz.prog W = .ok (PV y.p) W) := fun W hW => by
      have hc := HC.out W hW
      rw [hao, hbo] at hc
      have A := (HSr.out.1.below hW).at_ _ hao k Hlt.out
      have B := (HSr.out.2.below hW).at_ _ hbo k Hlt.out
      rw [Hx.out, Addr.add_lit] at A
      rw [Hy.out, Addr.add_lit] at B
      exact ⟨⟨hc.1.2, hc.2.2⟩, ⟨A.flat.1, B.flat.1⟩, run_ldP A.flat.2, run_ldP B.flat.2⟩
     have HBd := hide (HK.out.trans ((below_drew1 wr).mono HK.out.size))
     clear hlt hk
     rw [hao] at c3
     rw [hbo] at d3
     clear hao hbo
     go_upto_region 11 with fail
     refine wp_region_held_drew (S := fun W => (W.cell? ⟨G, 3, none⟩ = some (.slice (some ⟨b1, o1, none⟩) m a.rc) /\ W.cell? ⟨G + 1, 3, none⟩ = some (.slice (some ⟨b2, o2, none⟩) m b.rc)) /\ (W.cell? ⟨b1, o1 + k * 3, none⟩ = some (.string x.s) /\ W.cell? ⟨b2, o2 + k * 3, none⟩ = some (.string y.s)) /\ (ldP (.pointer (some ⟨b1, o1 + k * 3 + 1, none⟩))).run Tryz.prog W = .ok (PV x.p) W /\ (ldP (.pointer (some ⟨b2, o2 + k * 3 + 1, none⟩))).run Tryz.prog W = .ok (PV y.p) W) (by kernel_rfl) (HSt.out _ HBd.out) (fun hHeld => ?_)
     refine wTk 0 ⟨some 56, .fieldAddr 29 (.tmp 2) 2, 0, "ref.go:199", #[], none⟩ rfl ?_
     refine wTk 1 ⟨some 57, .load 27 (.tmp 56), 27, "ref.go:199", #[⟨0, .data⟩], none⟩ rfl ?_
     refine wTk 2 ⟨some 58, .move (.tmp 6), 3, "ref.go:199", #[], none⟩ rfl ?_
     refine wTk 3 ⟨some 59, .indexAddr 27 (.tmp 57) (.tmp 58), 0, "ref.go:199", #[⟨1, .data⟩, ⟨2, .data⟩], none⟩ rfl ?_
     refine wTk 4 ⟨some 60, .fieldAddr 80 (.tmp 59) 0, 0, "ref.go:199", #[⟨3, .data⟩], none⟩ rfl ?_
     refine wTk 5 ⟨some 61, .load 9 (.tmp 60), 9, "ref.go:199", #[⟨4, .data⟩], none⟩ rfl ?_
     refine wTk 6 ⟨some 62, .fieldAddr 29 (.tmp 3) 2, 0, "ref.go:199", #[], none⟩ rfl ?_
     refine wTk 7 ⟨some 63, .load 27 (.tmp 62), 27, "ref.go:199", #[⟨6, .data⟩], none⟩ rfl ?_
     refine wTk 8 ⟨some 64, .move (.tmp 6), 3, "ref.go:199", #[], none⟩ rfl ?_
     refine wTk 9 ⟨some 65, .indexAddr 27 (.tmp 63) (.tmp 64), 0, "ref.go:199", #[⟨7, .data⟩, ⟨8, .data⟩], none⟩ rfl ?_
     refine wTk 10 ⟨some 66, .fieldAddr 80 (.tmp 65) 0, 0, "ref.go:199", #[⟨9, .data⟩], none⟩ rfl ?_
     refine wTk 11 ⟨some 67, .load 9 (.tmp 66), 9, "ref.go:199", #[⟨10, .data⟩], none⟩ rfl ?_
     refine wTk 12 ⟨some 68, .binOp .neq 9 (.tmp 61) (.tmp 67) 9, 4, "ref.go:199", #[⟨5, .data⟩, ⟨11, .data⟩], none⟩ rfl ?_
     refine wTk 13 ⟨some 69, .move (.tmp 68), 4, "ref.go:199", #[⟨12, .data⟩], none⟩ rfl ?_
     refine wTk 14 ⟨some 70, .fieldAddr 29 (.tmp 2) 2, 0, "ref.go:199", #[⟨13, .guard⟩], some (13, false)⟩ rfl ?_
     refine wTk 15 ⟨some 71, .load 27 (.tmp 70), 27, "ref.go:199", #[⟨14, .data⟩, ⟨13, .guard⟩], some (13, false)⟩ rfl ?_
     refine wTk 16 ⟨some 72, .move (.tmp 6), 3, "ref.go:199", #[⟨13, .guard⟩], some (13, false)⟩ rfl ?_
     refine wTk 17 ⟨some 73, .indexAddr 27 (.tmp 71) (.tmp 72), 0, "ref.go:199", #[⟨15, .data⟩, ⟨16, .data⟩, ⟨13, .guard⟩], some (13, false)⟩ rfl ?_
     refine wTk 18 ⟨some 74, .fieldAddr 80 (.tmp 73) 1, 0, "ref.go:199", #[⟨17, .data⟩, ⟨13, .guard⟩], some (13, false)⟩ rfl ?_
     refine wTk 19 ⟨some 75, .load 26 (.tmp 74), 26, "ref.go:199", #[⟨18, .data⟩, ⟨13, .guard⟩], some (13, false)⟩ rfl ?_
     refine wTk 20 ⟨some 76, .fieldAddr 29 (.tmp 3) 2, 0, "ref.go:199", #[⟨13, .guard⟩], some (13, false)⟩ rfl ?_
     refine wTk 21 ⟨some 77, .load 27 (.tmp 76), 27, "ref.go:199", #[⟨20, .data⟩, ⟨13, .guard⟩], some (13, false)⟩ rfl ?_
     refine wTk 22 ⟨some 78, .move (.tmp 6), 3, "ref.go:199", #[⟨13, .guard⟩], some (13, false)⟩ rfl ?_
     refine wTk 23 ⟨some 79, .indexAddr 27 (.tmp 77) (.tmp 78), 0, "ref.go:199", #[⟨21, .data⟩, ⟨22, .data⟩, ⟨13, .guard⟩], some (13, false)⟩ rfl ?_
     refine wTk 24 ⟨some 80, .fieldAddr 80 (.tmp 79) 1, 0, "ref.go:199", #[⟨23, .data⟩, ⟨13, .guard⟩], some (13, false)⟩ rfl ?_
     refine wTk 25 ⟨some 81, .load 26 (.tmp 80), 26, "ref.go:199", #[⟨24, .data⟩, ⟨13, .guard⟩], some (13, false)⟩ rfl ?_
     refine wpAnyH_ready (rs := [26]) (by kernel_rfl) (by simp) (.cons rfl (fun K hK => ?_) .nil)
     go_simp
     go_wp2_with fail
     refine (samePast_any x.p y.p _ (HSo.out _ HBd.out).1 (HSo.out _ HBd.out).2).mono ?_
     rintro z w7 ⟨v, rfl, hv, b7⟩
     obtain rfl : v = true := hv.2 HXY.out.2
     have HB7 := hide (HBd.out.trans (b7.mono HBd.out.size))
     clear hv b7
     refine hK.out _ _ (HSt.out _ HB7.out) (fun hHeld => ?_)
     clear hK K
     refine wTk 27 ⟨some 83, .unOp .not 4 (.tmp 82), 4, "ref.go:199", #[⟨26, .data⟩, ⟨13, .guard⟩], some (13, false)⟩ rfl ?_
     refine wTk 28 ⟨some 84, .pick (.tmp 69) (.const (.bool true)) (.tmp 83), 4, "ref.go:199", #[⟨13, .data⟩, ⟨27, .data⟩], none⟩ rfl ?_
     refine wpAnyH_done (by kernel_rfl) ?_ _
     clear hHeld
     clear c0 c3 d0 d3 hsb
     go_wp2_with fail
     go_roundw
     case rel => exact ⟨k + 1, Hlt.out, by have := Hlt.out; simp, HB7.out⟩
     case measure => simp [intOf]; have := Hlt.out; omega
    ·have hlti : ¬ (k : Int) < (m : Int) := by omega
     have HEnd := hide (HBK.out.trans (HK.out.mono HBK.out.size))
     clear hlt hk
     go_wp2_with fail
     clear c0 c3 d0 d3
     go_ret
     exact ⟨rfl, HEnd.out⟩
end
section
open Go.ChangeShapes Go.WideShapes Go.ChangeAt Go.RowKit Go.Joins

theorem own : ownKnob Tryz.prog.godebug = none := by kernel_rfl
theorem laidOut : laidOutB Tryz.prog = true := by kernel_rfl
theorem cellsS : Tryz.prog.cellsOf 122 = 3 := by kernel_rfl
theorem cellsI : Tryz.prog.cellsOf 3 = 1 := by kernel_rfl
theorem cellsP : Tryz.prog.cellsOf 26 = 2 := by kernel_rfl
theorem cellsV : Tryz.prog.cellsOf 23 = 1 := by kernel_rfl
theorem cellsC : Tryz.prog.cellsOf 24 = 1 := by kernel_rfl
theorem bulk_pos {H : Type} (d : DataW H) : 1 <= Rows.uptoBulk d := by
 cases d with
 | lit l => cases l <;> simp only [Rows.uptoBulk] <;> omega
 | _ => simp only [Rows.uptoBulk] <;> omega
theorem bulk_len {H : Type} : ∀ (l : List (DataW H)), l.length <= Rows.uptoBulkAll l
 | [] => by simp
 | d :: l => by have := bulk_len l; have := bulk_pos d; simp only [Rows.uptoBulkAll, List.length_cons]; omega
theorem list2 {α : Type} {l : List α} (h : l.length = 2) : ∃ a b, l = [a, b] := by
 match l, h with
 | [a, b], _ => exact ⟨a, b, rfl⟩
theorem list3 {α : Type} {l : List α} (h : l.length = 3) : ∃ a b c, l = [a, b, c] := by
 match l, h with
 | [a, b, c], _ => exact ⟨a, b, c, rfl⟩
theorem open_span {H : Type} {enc : TypeId × Value -> H} {w : World} {base : Nat} {spare : Nat -> Bool} {held : Bool} {fuel : Nat} {cs : List Value} {x : DataW H × List MemPlace}
  (h : DataW.trod enc Tryz.prog w base spare held fuel 122 cs = some x) : ∃ e : Sn, cs = (SC e).toList := by
 obtain ⟨xs, m, _, hx, hcl, hxl, hf⟩ := DataW.trod_struct Tryz.underlying122 h
 obtain ⟨v0, v1, v2, rfl⟩ := list3 (hcl.trans cellsS)
 obtain ⟨y0, y1, y2, rfl⟩ := list3 hxl
 have t0 := hf 0 _ rfl
 have t1 := hf 1 _ rfl
 have t2 := hf 2 _ rfl
 simp [cellsI] at t0 t1 t2
 obtain ⟨r, e0, -, _⟩ := DataW.trod_int Tryz.underlying3 t0
 obtain ⟨n, e1, -, _⟩ := DataW.trod_int Tryz.underlying3 t1
 obtain ⟨m', e2, -, _⟩ := DataW.trod_int Tryz.underlying3 t2
 simp only [List.cons.injEq, and_true] at e0 e1 e2
 subst e0 e1 e2
 exact ⟨⟨r, n, m'⟩, rfl⟩
theorem viewI {H : Type} {enc : TypeId × Value -> H} {W : World} {fuel : Nat} {v : Value} {x : DataW H × List MemPlace}
  (h : DataW.trod enc Tryz.prog W 0 (fun _ => true) true fuel 23 [v] = some x) (hw : Rows.uptoBulk x.1 <= 1048576) : ∃ (ao : Option Addr) (n cap : Nat) (Z : List Int), v = .slice ao n cap /\ V.Src W ao n cap Z /\ n <= 1048576 := by
 rcases DataW.trod_slice Tryz.underlying23 h with h0 | ⟨a, len, cap, elems, rest, n, _, hcs, hx, hb, hl, hm, hlen, hel, hsp, hns⟩
 ·have e : v = .slice none 0 0 := by simpa using h0.1
  exact ⟨none, 0, 0, [], e, ⟨rfl, fun _ => ⟨rfl, rfl⟩, fun ad h => (by cases h)⟩, Nat.zero_le _⟩
 ·subst hx
  have e : v = .slice (some a) len cap := by simpa using hcs
  simp only [Rows.uptoBulk] at hw
  have h1 := bulk_len (elems.map (·.1))
  simp only [List.length_map] at h1
  have key : ∀ i, i < len -> ∃ z : Int, W.cell? (a.add i) = some (.int .i64 z) := by
   intro i hi
   have he := hel i hi
   obtain ⟨y, hy⟩ : ∃ y, elems[i]? = some y := ⟨_, List.getElem?_eq_getElem (by omega)⟩
   rw [hy, cellsI, Option.bind_eq_some_iff] at he
   obtain ⟨cs', hcs, hy'⟩ := he
   obtain ⟨hl', -, hce⟩ := World.cells?_some hcs
   obtain ⟨z, rfl, -, _⟩ := DataW.trod_int Tryz.underlying3 hy'
   have g0 := hce 0 (by omega)
   rw [add_zero, Nat.mul_one] at g0
   exact ⟨z, g0⟩
  refine ⟨some a, len, cap, (List.range len).map fun i => if h : i < len then Classical.choose (key i h) else 0, e, ⟨by simp, fun h => (by cases h), fun ad h t ht => ?_⟩, by omega⟩
  obtain rfl := Option.some.inj h
  have : ((List.range len).map fun i => if h : i < len then Classical.choose (key i h) else 0).getD t 0 = Classical.choose (key t ht) := by simp [List.getD, ht]
  rw [this]
  exact Classical.choose_spec (key t ht)
theorem viewC {H : Type} {enc : TypeId × Value -> H} {W : World} {fuel : Nat} {v : Value} {x : DataW H × List MemPlace}
  (h : DataW.trod enc Tryz.prog W 0 (fun _ => true) true fuel 24 [v] = some x) (hw : Rows.uptoBulk x.1 <= 1048576) : ∃ (ao : Option Addr) (n cap : Nat) (L : List Sn), v = .slice ao n cap /\ SSrc W ao n cap L /\ n <= 1048576 := by
 rcases DataW.trod_slice Tryz.underlying24 h with h0 | ⟨a, len, cap, elems, rest, n, _, hcs, hx, hb, hl, hm, hlen, hel, hsp, hns⟩
 ·have e : v = .slice none 0 0 := by simpa using h0.1
  exact ⟨none, 0, 0, [], e, SSrc.empty _, Nat.zero_le _⟩
 ·subst hx
  have e : v = .slice (some a) len cap := by simpa using hcs
  simp only [Rows.uptoBulk] at hw
  have h1 := bulk_len (elems.map (·.1))
  simp only [List.length_map] at h1
  have key : ∀ i, i < len -> ∃ e : Sn, SnAt W (a.add (i * 3)) e := by
   intro i hi
   have he := hel i hi
   obtain ⟨y, hy⟩ : ∃ y, elems[i]? = some y := ⟨_, List.getElem?_eq_getElem (by omega)⟩
   rw [hy, cellsS, Option.bind_eq_some_iff] at he
   obtain ⟨cs', hcs, hy'⟩ := he
   obtain ⟨_, -, hce⟩ := World.cells?_some hcs
   obtain ⟨e, rfl⟩ := open_span hy'
   have g0 := hce 0 (by omega)
   rw [add_zero] at g0
   exact ⟨e, ⟨g0, hce 1 (by omega), hce 2 (by omega)⟩⟩
  refine ⟨some a, len, cap, (List.range len).map fun i => if h : i < len then Classical.choose (key i h) else sn0, e, ⟨by simp, fun h => (by cases h), fun ad h t ht => ?_, by omega, hl⟩, by omega⟩
  obtain rfl := Option.some.inj h
  have : ((List.range len).map fun i => if h : i < len then Classical.choose (key i h) else sn0).getD t sn0 = Classical.choose (key t ht) := by simp [List.getD, ht]
  rw [this]
  exact Classical.choose_spec (key t ht)
theorem viewP {H : Type} {enc : TypeId × Value -> H} {W : World} {fuel : Nat} {cs : List Value} {x : DataW H × List MemPlace}
  (h : DataW.trod enc Tryz.prog W 0 (fun _ => true) true fuel 26 cs = some x) (hw : Rows.uptoBulk x.1 <= 1048576) : ∃ p : Pv, cs = [.slice p.vo p.vn p.vc, .slice p.co p.cn p.cc] /\ PSrc W p /\ p.P.cloud.length <= 1048576 := by
 obtain ⟨xs, m, _, hx, hcl, hxl, hf⟩ := DataW.trod_struct Tryz.underlying26 h
 obtain ⟨v0, v1, rfl⟩ := list2 (hcl.trans cellsP)
 obtain ⟨y0, y1, rfl⟩ := list2 hxl
 have t0 := hf 0 _ rfl
 have t1 := hf 1 _ rfl
 simp [cellsV, cellsC] at t0 t1
 subst hx
 simp only [Rows.uptoBulk, List.map_cons, List.map_nil, Rows.uptoBulkAll] at hw
 obtain ⟨a0, l0, c0, Z, rfl, S0, g0⟩ := viewI t0 (by omega)
 obtain ⟨a1, l1, c1, L, rfl, S1, g1⟩ := viewC t1 (by omega)
 exact ⟨⟨a0, l0, c0, a1, l1, c1, ⟨Z, L⟩⟩, rfl, ⟨S0, S1, by show l0 <= _; omega⟩, by show L.length <= _; rw [S1.len]; exact g1⟩
end
end Go.Proofs.YtaphmhbmhcahaaaGreat
namespace Go.Proofs.YtaphmhbmhcahaaaGreat.K
open Go.ChangeShapes Go.WideShapes Go.ChangeAt Go.RowKit Go.Joins

theorem cells28 : Tryz.prog.cellsOf 66 = 4 := by kernel_rfl
theorem cells26 : Tryz.prog.cellsOf 43 = 2 := by kernel_rfl
theorem cells3 : Tryz.prog.cellsOf 3 = 1 := by kernel_rfl
theorem cells9 : Tryz.prog.cellsOf 9 = 1 := by kernel_rfl
theorem list2 {α : Type} {l : List α} (h : l.length = 2) : ∃ a b, l = [a, b] := by
 match l, h with
 | [a, b], _ => exact ⟨a, b, rfl⟩
theorem list3 {α : Type} {l : List α} (h : l.length = 3) : ∃ a b c, l = [a, b, c] := by
 match l, h with
 | [a, b, c], _ => exact ⟨a, b, c, rfl⟩
theorem list4 {α : Type} {l : List α} (h : l.length = 4) : ∃ a b c d, l = [a, b, c, d] := by
 match l, h with
 | [a, b, c, d], _ => exact ⟨a, b, c, d, rfl⟩
theorem open_entry {H : Type} {enc : TypeId × Value -> H} {w : World} {base : Nat} {spare : Nat -> Bool} {held : Bool} {fuel : Nat} {cs : List Value} {x : DataW H × List MemPlace}
  (h : DataW.trod enc Tryz.prog w base spare held fuel 66 cs = some x) : ∃ e : En, cs = (EC e).toList /\ e.sku.size <= maxLen := by
 obtain ⟨xs, m, _, hx, hcl, hxl, hf⟩ := DataW.trod_struct Tryz.underlying66 h
 obtain ⟨v0, v1, v2, v3, rfl⟩ := list4 (hcl.trans cells28)
 obtain ⟨y0, y1, y2, rfl⟩ := list3 hxl
 have t0 := hf 0 _ rfl
 have t1 := hf 1 _ rfl
 have t2 := hf 2 _ rfl
 simp [cells3, cells9, cells26] at t0 t1 t2
 obtain ⟨xs', m', _, hx', hcl', hxl', hf'⟩ := DataW.trod_struct Tryz.underlying43 t0
 obtain ⟨z0, z1, rfl⟩ := list2 hxl'
 have s0 := hf' 0 _ rfl
 have s1 := hf' 1 _ rfl
 simp [cells3] at s0 s1
 obtain ⟨r, e0, -, _⟩ := DataW.trod_int Tryz.underlying3 s0
 obtain ⟨n, e1, -, _⟩ := DataW.trod_int Tryz.underlying3 s1
 obtain ⟨s, e2, -, w2⟩ := DataW.trod_string Tryz.underlying9 t1
 obtain ⟨q, e3, -, _⟩ := DataW.trod_int Tryz.underlying3 t2
 simp only [List.cons.injEq, and_true] at e0 e1 e2 e3
 subst e0 e1 e2 e3
 exact ⟨⟨r, n, s, q⟩, rfl, w2⟩
end Go.Proofs.YtaphmhbmhcahaaaGreat.K
