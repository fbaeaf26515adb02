/- BSo -/
import Derived.Test.YtalcmdjiejhkgaaGreatTk
import Derived.Test.YtalcmdjiejhkgaaGreatKl22
import Derived.Test.YtalcmdjiejhkgaaGreatKl26
import Derived.Test.YtalcmdjiejhkgaaGreatKl10
import Derived.Deep.CutRange
set_option maxRecDepth 100000
set_option maxHeartbeats 1600000
namespace Go.Proofs.YtalcmdjiejhkgaaGreat
open Go.RowKit Go.Maps Go.Sort
attribute [local go_sem ↓] ldP_eq stP_eq ldRe_eq stRe_eq bldR_eq run_bldRp
attribute [local go_sem] cells_PV PC_size cells_ReV ReC_size zero_ReC
def CpA (w w' : World) (x : Ending) (r : Rc) : Prop := ∃ c : Rc, x = .returned (ReV (mkR c)) /\ c.s = r.s /\ RcOk w' c /\ PNew w.heap.size c.p /\ Below w.heap.size w w' /\ CanonOf (runsAt r.p.P) c.p.P
theorem copied_any (r : Rc) (w : World) (hR : RcOk w r) : Calls Tryz.prog 22 #[ReV (mkR r)] w fun x w' => CpA w w' x r := by
 have b1 := below_new w (.cells (ReC (mkR r)) 43)
 have b2 := below_new (w.alloc (.cells (ReC (mkR r)) 43)) (.cells (ReC re0) 43)
 have HXA := hide ((ReBox_new w (mkR r)).below b2)
 have X2 := ReBox_new (w.alloc (.cells (ReC (mkR r)) 43)) re0
 rw [World.size_alloc] at X2
 have HXB := hide X2
 have HBK := hide (b1.trans (b2.mono b1.size))
 have HS := hide (hR.1.below HBK.out)
 have HZ : Hid (r.s.size <= maxLen) := hR.2
 clear b1 b2 X2 hR
 obtain ⟨wk, hwk⟩ : ∃ wk, (w.alloc (.cells (ReC (mkR r)) 43)).alloc (.cells (ReC re0) 43) = wk := ⟨_, rfl⟩
 obtain ⟨G, HG⟩ : ∃ G, Hid (w.heap.size = G) := ⟨_, rfl⟩
 have hG := HG.out
 rw [hwk] at HXA HXB HBK HS
 rw [hG] at HXA HXB
 have HSt : Hid (∀ W : World, W.heap[G]? = wk.heap[G]? -> W.cell? ⟨G, 0, none⟩ = some (.string r.s) /\ (ldP (.pointer (some ⟨G, 1, none⟩))).run Tryz.prog W = .ok (.agg #[.slice r.p.vo r.p.vn r.p.vc, .slice r.p.co r.p.cn r.p.cc]) W) := fun W h => by
  have X : ReBox W G (mkR r) := h.trans HXA.out
  exact ⟨X.sk, run_ldP X.past⟩
 go_enter Tryz.func22, Tryz.ntmps22
 go_upto_region 1 with fail
 clear hwk
 refine wp_region_held_drew (S := fun W => W.cell? ⟨G, 0, none⟩ = some (.string r.s) /\ (ldP (.pointer (some ⟨G, 1, none⟩))).run Tryz.prog W = .ok (.agg #[.slice r.p.vo r.p.vn r.p.vc, .slice r.p.co r.p.cn r.p.cc]) W) (by kernel_rfl) (HSt.out _ rfl) (fun hHeld => ?_)
 refine wTk 0 ⟨some 3, .fieldAddr 43 (.tmp 1) 0, 0, "records.go:65", #[], none⟩ rfl ?_
 refine wTk 1 ⟨some 4, .load 9 (.tmp 3), 9, "records.go:65", #[⟨0, .data⟩], none⟩ rfl ?_
 refine wTk 2 ⟨some 5, .fieldAddr 43 (.tmp 1) 1, 0, "records.go:65", #[], none⟩ rfl ?_
 refine wTk 3 ⟨some 6, .load 27 (.tmp 5), 27, "records.go:65", #[⟨2, .data⟩], none⟩ rfl ?_
 refine wpAnyH_ready (rs := [4]) (by kernel_rfl) (by simp) (.cons rfl (fun K hK => ?_) .nil)
 go_simp
 go_wp2_with fail
 refine (pastNorm_any r.p _ (HS.out.below (below_drew1 wk))).mono ?_
 rintro x w3 ⟨c, rfl, Sc, Nc, b3, Cc⟩
 have b03 : Below wk.heap.size wk w3 := (below_drew1 wk).trans b3
 have z3 : w3.heap[G]? = wk.heap[G]? := b03.block G HXA.out.lt
 refine hK.out _ _ (HSt.out _ z3) (fun hHeld => ?_)
 clear hK K
 have X3 : ReBox w3 (G + 1) re0 := HXB.out.below b03
 have t3 := run_stRe (m' := mkR ⟨r.s, c⟩) X3
 have X4 : ReBox (w3.setRow (G + 1) (ReC (mkR ⟨r.s, c⟩))) (G + 1) (mkR ⟨r.s, c⟩) := setRow_heap _ _ _ _ _ _ X3
 have z4 : (w3.setRow (G + 1) (ReC (mkR ⟨r.s, c⟩))).heap[G]? = wk.heap[G]? := (setRow_other _ _ _ _ (by omega)).trans z3
 have hlt : G + 1 < wk.heap.size := HXB.out.lt
 have S4 : PSrc (w3.setRow (G + 1) (ReC (mkR ⟨r.s, c⟩))) c := psrc_keep (g := some (G + 1)) Sc (fun k e => by obtain rfl := Option.some.inj e; exact PFar.new Nc hlt) (fun q _ hq => setRow_other _ _ _ _ (fun e => hq (by rw [e])))
 have HE : Hid (CpA w (w3.setRow (G + 1) (ReC (mkR ⟨r.s, c⟩))) (.returned (ReV (mkR ⟨r.s, c⟩))) r) := ⟨⟨r.s, c⟩, rfl, rfl, ⟨S4, HZ.out⟩, Nc.mono (by have := HBK.out.size; exact this), below_setRow (HBK.out.trans (b03.mono HBK.out.size)) (by omega), Cc⟩
 have HX4 := hide X4
 clear Sc Nc b3 b03 Cc X3 X4 S4 hlt
 refine wTk 5 ⟨some 8, .build 43 #[(0, .tmp 4), (1, .tmp 7)], 43, "records.go:65", #[⟨1, .data⟩, ⟨4, .data⟩], none⟩ rfl ?_
 refine wpAnyH_ready (rs := [6]) (by kernel_rfl) (by simp) (.cons rfl (fun K hK => ?_) .nil)
 go_simp
 refine hK.out _ _ (HSt.out _ z4) (fun hHeld => ?_)
 clear hK K
 refine wpAnyH_done (by kernel_rfl) ?_ _
 clear hHeld
 clear t3 z3 z4
 go_wp2_with fail
 refine bodyPost_ret (res1Re rfl rfl HX4.out) rfl ?_
 exact HE.out
def SoA (w w' : World) (x : Ending) (r : Rc) : Prop := ∃ (h : Hs) (c : Rc), x = .returned (.tuple #[HsV h, .int .i64 0]) /\ RcS w' h.o 1 h.c [c] /\ h.n = 1 /\ c.s = r.s /\ Below w.heap.size w w' /\ CanonOf (runsAt r.p.P) c.p.P
def SoI (w W : World) (k : Nat) (x : Hs) (r : Rc) : Prop := ∃ C, OwnRc w.heap.size w W x C /\ ((k = 0 /\ C = [] /\ x.n = 0) ∨ (1 <= k /\ x.n = 1 /\ ∃ c, C = [c] /\ c.s = r.s /\ CanonOf (runsAt r.p.P) c.p.P))
theorem sortTwo_any (ao : Option Addr) (cap : Nat) (r r2 : Rc) (w : World) (hS : RcS w ao 2 cap [r, r2]) (hs : skuR r.s = true) (hs2 : skuR r2.s = true) (h1 : ¬ EmptyP r.p.P) (h2 : EmptyP r2.p.P) :
  Calls Tryz.prog 18 #[.slice ao 2 cap] w fun x w' => SoA w w' x r := by
 have HS := hide hS
 have Hh : Hid (skuR r.s = true /\ skuR r2.s = true /\ ¬ EmptyP r.p.P /\ EmptyP r2.p.P) := ⟨hs, hs2, h1, h2⟩
 clear hS hs hs2 h1 h2
 go_enter Tryz.func18, Tryz.ntmps18
 go_wp2_with fail
 go_loopw [4, 9] (fun v i wr => ∃ (k : Nat) (x : Hs), k <= 2 /\ v = .slice x.o x.n x.c /\ i = .int .i64 (k : Int) /\ Hid (SoI w wr k x r)) (fun _ i _ => 2 - (intOf i).toNat)
 case atStart => exact ⟨0, hs0, Nat.zero_le _, rfl, rfl, ⟨[], OwnRc.nil w, .inl ⟨rfl, rfl, rfl⟩⟩⟩
 case round =>
  obtain ⟨k, x, hk, rfl, rfl, HI⟩ := hrel
  rename World => wr
  by_cases hlt : k < 2
  ·have hlti : (k : Int) < 2 := by omega
   obtain ⟨C, O, hC⟩ := HI.out
   obtain ⟨ad, hao, A0⟩ := (HS.out.below O.below).at k hlt
   have hOk := (HS.out.below O.below).okAt k hlt
   obtain ⟨q, Hq⟩ : ∃ q, Hid ([r, r2].getD k rc0 = q) := ⟨_, rfl⟩
   rw [Hq.out] at A0 hOk
   subst hao
   have hld := run_laRe A0
   obtain ⟨g7, hg7⟩ : ∃ g7, wr.heap.size = g7 := ⟨_, rfl⟩
   obtain ⟨w7, hst, X7, B7, S7⟩ := madeRe wr (mkR q) g7 hg7
   have HO7 := hide (O.later B7)
   have HX7 := hide X7
   have HQ7 := hide (hOk.below B7)
   have c7 := X7.sk
   have Hsk : Hid (skuR q.s = true) := by
    show _ = _
    have hcases : k = 0 ∨ k = 1 := by omega
    rw [<- Hq.out]
    rcases hcases with rfl | rfl
    ·exact Hh.out.1
    ·exact Hh.out.2.1
   have hq7 : q.s.size <= maxLen := hOk.2
   have HC := hide hC
   have Hlt := hide hlt
   clear A0 X7 B7 S7 O hOk hC HI hlt hk
   go_wp2_with fail
   clear hst hld hg7
   refine (isSkuOrEmpty_any q.s _ hq7).mono ?_
   rintro e w8 ⟨rfl, b8⟩
   rw [Hsk.out]
   have HO8 := hide (HO7.out.later b8)
   have HX8 := hide (HX7.out.below b8)
   have HQ8 := hide (HQ7.out.below b8)
   clear b8 c7 HO7 HX7 HQ7
   have l8 := run_ldP HX8.out.past
   go_wp2_with fail
   clear l8
   refine (pastEmpty_any q.p _ HQ8.out.1).mono ?_
   rintro e w9 ⟨em, rfl, hem, b9⟩
   have HO9 := hide (HO8.out.later b9)
   have HX9 := hide (HX8.out.below b9)
   have HQ9 := hide (HQ8.out.below b9)
   clear b9 HO8 HX8 HQ8
   cases em with
   | true =>
    have HN : Hid (SoI w w9 (k + 1) x r) := by
     refine ⟨C, HO9.out, .inr ?_⟩
     rcases HC.out with ⟨rfl, -, -⟩ | ⟨h1, h2⟩
     ·exact absurd (by rw [<- Hq.out] at hem; exact hem.1 rfl) Hh.out.2.2.1
     ·exact ⟨by omega, h2⟩
    clear hem
    go_wp2_with fail
    go_roundw
    case rel => exact ⟨k + 1, x, Hlt.out, rfl, by simp, HN⟩
    case measure => simp [intOf]; have := Hlt.out; omega
   | false =>
    have Hk0 : Hid (k = 0 /\ C = [] /\ x.n = 0 /\ q = r) := by
     rcases HC.out with ⟨rfl, h1, h2⟩ | ⟨h1, -⟩
     ·exact ⟨rfl, h1, h2, by rw [<- Hq.out]; rfl⟩
     ·have hk1 : k = 1 := by have := Hlt.out; omega
      subst hk1
      rw [<- Hq.out] at hem
      have := hem.2 Hh.out.2.2.2
      cases this
    clear hem
    have l9 := run_ldRe HX9.out
    go_wp2_with fail
    clear l9
    refine (copied_any q _ HQ9.out).mono ?_
    rintro e wa ⟨c, rfl, hcs, Rc1, Nc, ba, Cc⟩
    have Oa := HO9.out.later ba
    have hfar : FarH x c.p := fun j hj => PFar.new Nc (HO9.out.own.lt j hj).2
    obtain ⟨gb, cb, wb, hab, Ob, -⟩ := Oa.app c Rc1 hfar (by have := Hk0.out; omega)
    have HAb : Hid ((Builtin.append_ #[22, 22] 22 #[.slice x.o x.n x.c, .slice (some ⟨wa.heap.size, 0, none⟩) 1 1]).run Tryz.prog (wa.alloc (.cells #[.string c.s, .slice c.p.vo c.p.vn c.p.vc, .slice c.p.co c.p.cn c.p.cc] 43)) = .ok (.slice (some ⟨gb, 0, none⟩) (x.n + 1) cb) wb) := hab
    have HN : Hid (SoI w wb (k + 1) ⟨some ⟨gb, 0, none⟩, x.n + 1, cb⟩ r) := by
     obtain ⟨rfl, rfl, h0, rfl⟩ := Hk0.out
     exact ⟨_, Ob, .inr ⟨by omega, by show x.n + 1 = 1; omega, c, rfl, hcs, Cc⟩⟩
    clear hab Ob Oa hfar hcs Rc1 Nc ba Cc
    go_wp2_with (at_builtin; refine seq_appM rfl (.tmp 21) (.tmp 24) rfl rfl rfl HAb.out ?_)
    go_roundw
    case rel => exact ⟨k + 1, ⟨some ⟨gb, 0, none⟩, x.n + 1, cb⟩, Hlt.out, rfl, by simp, HN⟩
    case measure => simp [intOf]; have := Hlt.out; omega
  ·have hlti : ¬ (k : Int) < 2 := by omega
   have HF : Hid (SoA w wr (.returned (.tuple #[.slice x.o 1 x.c, .int .i64 0])) r /\ x.n = 1) := by
    obtain ⟨C, O, ⟨h0, -⟩ | ⟨h1, hn, c, rfl, hcs, Cc⟩⟩ := HI.out
    ·omega
    ·have h := O.src (by omega)
     rw [hn] at h
     exact ⟨⟨x, c, by show _ = Ending.returned (.tuple #[.slice x.o x.n x.c, _]); rw [hn], h, hn, hcs, O.below, Cc⟩, hn⟩
   rw [HF.out.2]
   clear HI
   go_wp2_with fail
   refine (sortOne x.o x.c _ _).mono ?_
   rintro e w' ⟨rfl, rfl⟩
   go_wp2_with fail
   refine (compactOne x.o x.c _ _).mono ?_
   rintro e w' ⟨rfl, rfl⟩
   go_wp2_with fail
   go_ret2
   exact HF.out.1
end Go.Proofs.YtalcmdjiejhkgaaGreat
