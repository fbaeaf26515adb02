/- BAq BFx TFgB -/
import Derived.Test.YtalcmdjiejhkgaaGreatTk
import Derived.Test.YtalcmdjiejhkgaaGreatKl41
import Derived.Deep.CutRange
import Derived.Test.YtalcmdjiejhkgaaGreatKl22
import Derived.Test.YtalcmdjiejhkgaaGreatKl27
import Derived.Test.YtalcmdjiejhkgaaGreatKl25
import Derived.Test.YtalcmdjiejhkgaaGreatKl36
import Derived.Test.YtalcmdjiejhkgaaGreatKl18
import Derived.Test.YtalcmdjiejhkgaaGreatKl10
import Derived.Test.YtalcmdjiejhkgaaGreatKl13
set_option maxRecDepth 100000
set_option maxHeartbeats 6400000
namespace Go.Proofs.YtalcmdjiejhkgaaGreat
section
open Go.RowKit Go.Maps Go.Sort
attribute [local go_sem ↓] ldP_eq stP_eq ldRe_eq stRe_eq
attribute [local go_sem] cells_ReV ReC_size zero_ReC
theorem nodup_len {α : Type} [DecidableEq α] : ∀ (l m : List α), l.Nodup -> (∀ x ∈ l, x ∈ m) -> l.length <= m.length
 | [], _, _, _ => Nat.zero_le _
 | x :: l, m, hn, hs => by
  have h1 := List.nodup_cons.1 hn
  have hx := hs x List.mem_cons_self
  have h2 := nodup_len l (m.erase x) h1.2 (fun y hy => (List.mem_erase_of_ne (fun e => h1.1 (by rw [<- e]; exact hy))).2 (hs y (List.mem_cons_of_mem _ hy)))
  rw [List.length_erase_of_mem hx] at h2
  have := List.length_pos_of_mem hx
  simp only [List.length_cons]
  omega
theorem cb_self : ∀ a : List UInt8, Lib.compareBytes a a = 0
 | [] => by simp [Lib.compareBytes]
 | a :: x => by
  have h0 : ¬ a < a := UInt8.lt_irrefl a
  simpa [Lib.compareBytes, h0] using cb_self x
theorem fold_len {R F : List Rc} (h : FoldOf R F) : F.length <= R.length := by
 have h1 := nodup_len (F.map (fun x => x.s.data.toList)) (R.map (fun x => x.s.data.toList)) (by
  refine List.pairwise_map.2 (h.1.imp fun {a b} hab e => ?_)
  have e2 : a.s = b.s := by cases ha : a.s; cases hb : b.s; rw [ha, hb] at e; simpa using e
  rw [e2] at hab
  exact absurd hab (by unfold cmpS; rw [cb_self]; decide)) (fun x hx => by
  obtain ⟨f, hf, rfl⟩ := List.mem_map.1 hx
  obtain ⟨r, hr, e⟩ := (h.2.1 f hf).1
  exact List.mem_map.2 ⟨r, hr, by rw [e]⟩)
 simpa using h1
theorem clone_gives {w w' : World} {L : List K.En} {n : Nat} {ao : Option Addr} {c : Nat} (hn : L.length = n) (hs : ∀ e ∈ L, e.sku.size <= maxLen) (hb : n <= 3518437208883) (O : K.OwnE w.heap.size w.heap.size w w' ao c L) : K.ESrc w' ao n c L /\ ∀ ad, ao = some ad -> w.heap.size <= ad.block := by
 have h := O.src hs (by omega)
 rw [hn] at h
 exact h
theorem apply_any (ao bo : Option Addr) (n cap m cap' : Nat) (L : List K.En) (R : List Rc) (w : World) (hS : K.ESrc w ao n cap L) (hR : RcS w bo m cap' R) (hwt : ∀ s, wt (ofS R s) <= 8796093022207) (hnm : m * (n + 1) <= 8796093022207) :
  Calls Tryz.prog 19 #[.slice ao n cap, .slice bo m cap'] w fun x w' => ApA w w' x L R m := by
 have HS := hide hS
 have HR := hide hR
 have HW := hide hwt
 have HNM := hide hnm
 have HL : Hid (L.length = n /\ n <= 3518437208883) := ⟨hS.1, hS.2.2.2.2⟩
 have hnb := HL.out.2
 have HM : Hid (R.length = m) := hR.len
 clear hS hR hwt hnm
 go_enter Tryz.func19, Tryz.ntmps19
 go_wp2_with fail
 refine (K.lcheck_any ao n cap L _ HS.out).mono ?_
 rintro x w1 ⟨rfl, b1⟩
 have HB1 := hide b1
 have HS1 := hide (HS.out.below b1)
 have HR1 := hide (HR.out.below b1)
 clear b1 HS HR
 rcases K.chk_cases L with hc | hc
 rotate_left
 ·have HE : Hid (ApA w w1 (.returned (.tuple #[.slice none 0 0, .int .i64 1])) L R m) := .inr ⟨fun h => (by rw [hc] at h; cases h.1), _, _, _, rfl, K.ESrc.none _, HB1.out, fun ad h => by cases h⟩
  rw [hc]
  clear hc
  go_wp2_with fail
  go_ret2
  exact HE.out
 ·rw [hc]
  have HC := hide hc
  clear hc
  go_wp2_with fail
  refine (fold_any bo m cap' R _ HR1.out HW.out).mono ?_
  rintro x w2 (⟨hO, ⟨qo, qn, qc⟩, F, rfl, S2, b2, -, hF⟩ | ⟨hO, rfl, b2⟩)
  rotate_left
  ·have HE : Hid (ApA w w2 (.returned (.tuple #[.slice none 0 0, .int .i64 1])) L R m) := .inr ⟨fun h => hO h.2, _, _, _, rfl, K.ESrc.none _, HB1.out.trans (b2.mono HB1.out.size), fun ad h => by cases h⟩
   clear hO b2
   go_wp2_with fail
   go_ret2
   exact HE.out
  ·rw [show HsV ⟨qo, qn, qc⟩ = Value.slice qo qn qc from rfl]
   replace S2 : RcS w2 qo qn qc F := S2
   have HO := hide hO
   have HB2 := hide (HB1.out.trans (b2.mono HB1.out.size))
   have HS2 := hide (HS1.out.below b2)
   have HF := hide hF
   have HFS := hide S2
   have HFl : Hid (F.length = qn) := S2.len
   have hqb := S2.big
   have HFm : Hid (qn <= m) := by show _ <= _; rw [<- HFl.out, <- HM.out]; exact fold_len hF
   clear hO b2 HS1 HB1 HR1 hF S2
   by_cases hq0 : qn = 0
   ·have hqi : ((qn : Int) == 0) = true := by simp [hq0]
    have hF0 : F = [] := List.eq_nil_of_length_eq_zero (HFl.out.trans hq0)
    have HFr : Hid (L.filter (freeB R) = L) := by show _ = _; exact free_nil HC.out (hF0 ▸ HF.out)
    clear hF0
    cases ao with
    | none =>
     have h00 := HS2.out.2.1 rfl
     obtain ⟨rfl, rfl⟩ := h00
     go_wp2_with fail
     refine (K.clone_nil _).mono ?_
     rintro x w3 ⟨rfl, rfl⟩
     have HE : Hid (ApA w w3 (.returned (.tuple #[.slice none 0 0, .int .i64 0])) L R m) := .inl ⟨HC.out, HO.out, none, 0, 0, rfl, by rw [HFr.out]; exact HS2.out, HB2.out, fun ad h => by cases h⟩
     go_wp2_with fail
     go_ret2
     exact HE.out
    | some ad =>
     go_wp2_with fail
     refine (K.clone_any ad n cap L _ HS2.out).mono ?_
     rintro x w3 ⟨a3, c3, rfl, O3⟩
     have h3 := clone_gives HL.out.1 HS2.out.2.2.2.1 HL.out.2 O3
     have HE : Hid (ApA w w3 (.returned (.tuple #[.slice a3 n c3, .int .i64 0])) L R m) := .inl ⟨HC.out, HO.out, a3, n, c3, rfl, by rw [HFr.out]; exact h3.1, HB2.out.trans (O3.below.mono HB2.out.size), fun ad h => Nat.le_trans HB2.out.size (h3.2 ad h)⟩
     clear O3 h3
     go_wp2_with fail
     go_ret2
     exact HE.out
   ·have hqi : ((qn : Int) == 0) = false := by simp [hq0]
    have HSK : Hid (∀ e ∈ L, ¬ e.sku.size = 0) := fun e he => ce_sku (chk_ce HC.out e he)
    go_wp2_with fail
    refine (dotsBy_any ao n cap L _ HS2.out HSK.out).mono ?_
    rintro x w3 ⟨kk, rfl, hM⟩
    obtain ⟨K0, f, M3⟩ := hM
    have HM3 := hide M3
    have HB3 := hide (HB2.out.trans (M3.below.mono HB2.out.size))
    have HS3 := hide (HS2.out.below M3.below)
    have HF3 := hide (HFS.out.below M3.below)
    obtain ⟨b, Hb⟩ : ∃ b, Hid (w2.heap.size = b) := ⟨_, rfl⟩
    rw [Hb.out]
    clear M3 HS2 HFS HB2
    go_wp2_with fail
    go_loopw [10, 35] (fun v i wr => ∃ (k : Nat) (x : Hs), k <= qn /\ v = .slice x.o x.n x.c /\ i = .int .i64 (k : Int) /\ Hid (∃ X : List Pv, OwnP w3.heap.size w3 wr x X /\ (∀ p ∈ X, FarH x p) /\ BX L (F.take k) X /\ x.n = k)) (fun _ i _ => qn - (intOf i).toNat)
    case atStart => exact ⟨0, hs0, Nat.zero_le _, rfl, rfl, ⟨[], OwnP.nil w3, fun p h => (by cases h), BX.nil L, rfl⟩⟩
    case round =>
     obtain ⟨k, x, hk, rfl, rfl, HX⟩ := hrel
     rename World => wr
     by_cases hlt : k < qn
     ·have hlti : (k : Int) < (qn : Int) := by omega
      obtain ⟨X, O, hFar, hBX, hxn⟩ := HX.out
      obtain ⟨ad, hao, A0⟩ := (HF3.out.below O.below).at k hlt
      have hOk := (HF3.out.below O.below).okAt k hlt
      have HT := hide (take_snocF F k (by rw [HFl.out]; exact hlt))
      obtain ⟨r, Hr⟩ : ∃ r, Hid (F.getD k rc0 = r) := ⟨_, rfl⟩
      rw [Hr.out] at A0 hOk HT
      have hsk := hOk.2
      have hld := run_laRe A0
      obtain ⟨g7, hg7⟩ : ∃ g7, wr.heap.size = g7 := ⟨_, rfl⟩
      obtain ⟨w7, hst, X7, B7, S7⟩ := madeRe wr (mkR r) g7 hg7
      have O7 := (O.later B7).later (below_drew1 w7)
      have M7 := ((HM3.out.later O.below).later B7).later (below_drew1 w7)
      have l0 : (Instr.lookup 80 (.map (some b)) (.string r.s) false).run Tryz.prog w7.drew = .ok (.slice (f r.s).o (f r.s).n (f r.s).c) w7.drew := by
       have := M7.look keyS Tryz.underlying9 Tryz.underlying80 (zeroDs _) r.s hsk
       rwa [Hb.out] at this
      have hdl := M7.len r.s
      have hdb := dotsS_len L r.s
      have HD7 : Hid (RSrc w7.drew (f r.s).o (f r.s).n (f r.s).c (dotsS L r.s)) := by
       have h := M7.rows r.s
       have e : (HsV (f r.s)) = .slice (f r.s).o (dotsS L r.s).length (f r.s).c := by show Value.slice _ _ _ = _; rw [hdl]
       rw [e, hdl] at h
       have := (OwnD.src (B0 := w2.heap.size) ⟨h, M7.below, M7.hb.2.2, by omega⟩ (by have := HL.out; omega)).1
       show RSrc _ _ _ _ _
       rw [hdl]
       exact this
      have HSt : Hid (∀ W : World, W.heap[g7]? = w7.heap[g7]? -> W.cell? ⟨g7, 0, none⟩ = some (.string r.s) /\ (ldP (.pointer (some ⟨g7, 1, none⟩))).run Tryz.prog W = .ok (.agg #[.slice r.p.vo r.p.vn r.p.vc, .slice r.p.co r.p.cn r.p.cc]) W) := fun W h => by
       have X : ReBox W g7 (mkR r) := h.trans X7
       exact ⟨X.sk, run_ldP X.past⟩
      have Hg7 : Hid (g7 < w7.heap.size) := by show _ < _; omega
      have Hlt := hide hlt
      have HO7 := hide O7
      have HFa := hide hFar
      have HBX := hide hBX
      have Hxn : Hid (x.n = k /\ k <= 2199023255552) := ⟨hxn, by omega⟩
      have HP7 : Hid (PSrc w7.drew r.p) := ((hOk.1.below B7).below (below_drew1 w7))
      have HGX : Hid (∀ j, (HsV x).ownBlock = some j -> j < g7) := fun j hj => by have := (O.own.lt j hj).2; omega
      subst hao
      clear A0 X7 B7 S7 M7 O7 O hFar hBX hlt hk hOk hdl hdb hxn HX
      go_upto_region 14 with fail
      clear hst hld
      refine wp_region_held_drew (S := fun W => W.cell? ⟨g7, 0, none⟩ = some (.string r.s) /\ (ldP (.pointer (some ⟨g7, 1, none⟩))).run Tryz.prog W = .ok (.agg #[.slice r.p.vo r.p.vn r.p.vc, .slice r.p.co r.p.cn r.p.cc]) W) (by kernel_rfl) (HSt.out _ rfl) (fun hHeld => ?_)
      refine wTk 0 ⟨some 39, .move (.tmp 10), 59, "bars.go:44", #[], none⟩ rfl ?_
      refine wTk 1 ⟨some 40, .move (.tmp 9), 80, "bars.go:44", #[], none⟩ rfl ?_
      refine wTk 2 ⟨some 41, .fieldAddr 43 (.tmp 12) 0, 0, "bars.go:44", #[], none⟩ rfl ?_
      refine wTk 3 ⟨some 42, .load 9 (.tmp 41), 9, "bars.go:44", #[⟨2, .data⟩], none⟩ rfl ?_
      refine wTk 6 ⟨some 45, .fieldAddr 43 (.tmp 12) 1, 0, "bars.go:44", #[], none⟩ rfl ?_
      refine wTk 7 ⟨some 46, .load 27 (.tmp 45), 27, "bars.go:44", #[⟨6, .data⟩], none⟩ rfl ?_
      refine wpAnyH_ready (rs := [4]) (by kernel_rfl) (by simp) (.cons rfl (fun K hK => ?_) .nil)
      go_simp
      refine hK.out _ _ (HSt.out _ rfl) (fun hHeld => ?_)
      clear hK K
      refine wpAnyH_ready (rs := [5]) (by kernel_rfl) (by simp) (.cons rfl (fun K hK => ?_) .nil)
      go_simp
      go_wp2_with fail
      refine (pastOfN_any (f r.s).o (f r.s).n (f r.s).c (dotsS L r.s) _ HD7.out).mono ?_
      rintro e w8 ⟨pd, rfl, Sd, -, b8, Cd⟩
      have HO8 := hide (HO7.out.later b8)
      have HP8 := hide (HP7.out.below b8)
      have z8 : w8.heap[g7]? = w7.heap[g7]? := b8.block g7 Hg7.out
      have HZ8 := hide z8
      have HG8 : Hid (g7 < w8.heap.size) := Nat.lt_of_lt_of_le Hg7.out b8.size
      have HSd := hide Sd
      have HCd := hide Cd
      refine hK.out _ _ (HSt.out _ z8) (fun hHeld => ?_)
      clear hK K
      clear b8 z8 Sd Cd HO7 HP7 l0
      refine wpAnyH_ready (rs := [8]) (by kernel_rfl) (by simp) (.cons rfl (fun K hK => ?_) .nil)
      go_simp
      go_wp2_with fail
      refine (pastMeet_any pd r.p _ HSd.out HP8.out).mono ?_
      rintro e w9 ⟨pm, rfl, Sm, Nm, b9, Cm⟩
      have HO9 := hide (HO8.out.later b9)
      have z9 : w9.heap[g7]? = w7.heap[g7]? := (b9.block g7 HG8.out).trans HZ8.out
      have HZ9 := hide z9
      have HG9 : Hid (g7 < w9.heap.size) := Nat.lt_of_lt_of_le HG8.out b9.size
      have HSm := hide Sm
      have HFm2 : Hid (FarH x pm) := fun j hj => PFar.new Nm (by have := HGX.out j hj; have := HG8.out; omega)
      have HBm : Hid (BX L (F.take (k + 1)) (X ++ [pm])) := by show BX _ _ _; rw [HT.out]; exact HBX.out.snoc HCd.out Cm
      refine hK.out _ _ (HSt.out _ z9) (fun hHeld => ?_)
      clear hK K
      clear b9 z9 Sm Nm Cm HO8 HP8
      obtain ⟨ga, ca, wa, haa, Oa, Fa, ka⟩ := HO9.out.app HFa.out pm HSm.out HFm2.out (by have := Hxn.out; omega)
      have HAA : Hid ((Builtin.append_ #[59, 59] 59 #[.slice x.o x.n x.c, .slice (some ⟨w9.heap.size, 0, none⟩) 1 1]).run Tryz.prog (w9.alloc (.cells #[.slice pm.vo pm.vn pm.vc, .slice pm.co pm.cn pm.cc] 27)) = .ok (.slice (some ⟨ga, 0, none⟩) (x.n + 1) ca) wa) := haa
      have zA : (w9.alloc (.cells #[.slice pm.vo pm.vn pm.vc, .slice pm.co pm.cn pm.cc] 27)).heap[g7]? = w7.heap[g7]? := (Below.heap_alloc w9 _ g7 HG9.out).trans HZ9.out
      have za : wa.heap[g7]? = w7.heap[g7]? := (ka g7 HG9.out (fun e => by have := HGX.out g7 e; omega)).trans HZ9.out
      have HOa : Hid (∃ X : List Pv, OwnP w3.heap.size w3 wa ⟨some ⟨ga, 0, none⟩, x.n + 1, ca⟩ X /\ (∀ p ∈ X, FarH ⟨some ⟨ga, 0, none⟩, x.n + 1, ca⟩ p) /\ BX L (F.take (k + 1)) X /\ x.n + 1 = k + 1) := ⟨_, Oa, Fa, HBm.out, by rw [Hxn.out.1]⟩
      clear haa Oa Fa ka
      refine wpAnyH_ready (rs := [9]) (by kernel_rfl) (by simp) (.cons rfl (fun K hK => ?_) .nil)
      go_simp
      refine hK.out _ _ (HSt.out _ zA) (fun hHeld => ?_)
      clear hK K
      refine wpAnyH_ready (rs := [10]) (by kernel_rfl) (by simp) (.cons rfl (fun K hK => ?_) .nil)
      refine step_appM (by rfl) (.tmp 39) (.tmp 48) (by rfl) (by rfl) (by rfl) HAA.out ?_
      refine hK.out _ _ (HSt.out _ za) (fun hHeld => ?_)
      clear hK K
      refine wTk 11 ⟨some 10, .assign (.tmp 49), 59, "bars.go:44", #[⟨10, .data⟩, ⟨10, .chain⟩, ⟨0, .phase⟩, ⟨1, .phase⟩, ⟨2, .phase⟩, ⟨3, .phase⟩, ⟨4, .phase⟩, ⟨5, .phase⟩, ⟨6, .phase⟩, ⟨7, .phase⟩, ⟨8, .phase⟩, ⟨9, .phase⟩, ⟨10, .phase⟩], none⟩ rfl ?_
      refine wpAnyH_done (by kernel_rfl) ?_ _
      clear hHeld
      clear zA za
      go_wp2_with fail
      go_roundw
      case rel => exact ⟨k + 1, ⟨some ⟨ga, 0, none⟩, x.n + 1, ca⟩, Hlt.out, rfl, by simp, HOa⟩
      case measure => simp [intOf]; have := Hlt.out; omega
     ·have hlti : ¬ (k : Int) < (qn : Int) := by omega
      obtain ⟨X, O, -, hBX, hxn⟩ := HX.out
      have hT : F.take k = F := List.take_of_length_le (by have := HFl.out; omega)
      rw [hT] at hBX
      have HBX := hide hBX
      have HP : Hid (PRow wr x.o x.n X) := O.row
      have HWX : Hid (wt X <= 8796093022207) := by
       show _ <= _
       have h1 := hBX.2
       rw [HFl.out, HL.out.1] at h1
       have h2 := Nat.mul_le_mul_right (n + 1) HFm.out
       have h3 := HNM.out
       omega
      have hxq : x.n <= 8796093022207 := by omega
      have HBr := hide (HB3.out.trans (O.below.mono HB3.out.size))
      have HSr := hide (HS3.out.below O.below)
      clear O hBX hT hxn HX hk hlt
      go_wp2_with fail
      refine (pastJoin_any x.o x.n x.c X _ HP.out HWX.out hxq).mono ?_
      rintro e w8 ⟨pj, rfl, Sj, -, b8, Cj⟩
      have HB8 := hide (HBr.out.trans (b8.mono HBr.out.size))
      have HS8 := hide (HSr.out.below b8)
      have HSj := hide Sj
      have HCj := hide Cj
      clear b8 Sj Cj HBr HSr
      go_wp2_with fail
      refine (outside_any ao n cap L pj _ HS8.out HSj.out).mono ?_
      rintro e w9 (⟨-, -, a9, n9, c9, rfl, S9, b9, N9⟩ | ⟨hno, -⟩)
      rotate_left
      ·exact absurd ⟨HC.out, canon_iff.1 HCj.out.canon⟩ hno
      ·have HE : Hid (ApA w w9 (.returned (.tuple #[.slice a9 n9 c9, .int .i64 0])) L R m) := .inl ⟨HC.out, HO.out, a9, n9, c9, rfl, by rw [<- free_of HC.out HF.out HBX.out HCj.out]; exact S9, HB8.out.trans (b9.mono HB8.out.size), fun ad h => Nat.le_trans HB8.out.size (N9 ad h)⟩
       clear S9 b9 N9
       go_wp2_with fail
       go_ret2
       exact HE.out
end
section
open Go.RowKit
attribute [local go_sem ↓] ldP_eq stP_eq ldRe_eq stRe_eq bldP_eq run_bldP2 run_bldP1 run_bldP0 bldR_eq run_bldR2 run_bldR1 bldE_eq run_bldE bldD_eq run_bldD bldSp_eq run_bldSp
attribute [local go_sem] cells_agg
def fP1 : Pst := ⟨[0, 0, 0], [⟨0, 1, 2⟩]⟩
def fP2 : Pst := ⟨[2], []⟩
def fB : ByteArray := ⟨#[66]⟩
def fA : ByteArray := ⟨#[65]⟩
def fa : ByteArray := ⟨#[97]⟩
def fE1 : K.En := ⟨0, 2, fA, 5⟩
def fE2 : K.En := ⟨0, 3, fB, 1⟩
theorem sku_fB : skuR fB = true := by decide +kernel
theorem sku_fA : skuR fA = true := by decide +kernel
theorem sku_fa : skuR fa = false := by decide +kernel
theorem mem_fP1 (r : Nat) (n : Int) : mem (runsAt fP1 r) n ↔ r = 0 /\ 1 <= n /\ n <= 2 := by
 have hv : vecPart (V.at' fP1.vec r) = [] := by
  have h : V.at' fP1.vec r = 0 := by
   unfold V.at'
   split
   ·have : fP1.vec.getD r 0 = 0 := by
     match r with
     | 0 => rfl
     | 1 => rfl
     | 2 => rfl
     | r + 3 => rfl
    rw [this]; rfl
   ·rfl
  rw [h]; rfl
 unfold runsAt
 rw [hv, List.nil_append]
 by_cases h : r = 0
 ·subst h
  have hc : cloudPart fP1.cloud 0 = [⟨1, 2⟩] := rfl
  rw [hc, mem_one]
  dsimp only
  omega
 ·have hc : cloudPart fP1.cloud r = [] := by
   unfold cloudPart fP1
   have : ¬ (0 : Int) = (r : Int) := by omega
   simp [this]
  rw [hc]
  exact ⟨fun h => absurd h (mem_nil n), fun h1 => absurd h1.1 h⟩
theorem mem_fP2 (r : Nat) (n : Int) : mem (runsAt fP2 r) n ↔ r = 0 /\ 1 <= n /\ n <= 2 := by
 have hc : cloudPart fP2.cloud r = [] := rfl
 unfold runsAt
 rw [hc, List.append_nil]
 by_cases h : r = 0
 ·subst h
  have hv : vecPart (V.at' fP2.vec 0) = [⟨1, 2⟩] := by decide
  rw [hv, mem_one]
  dsimp only
  omega
 ·have hv : vecPart (V.at' fP2.vec r) = [] := by
   have h0 : V.at' fP2.vec r = 0 := by
    unfold V.at'
    split
    ·have : fP2.vec.getD r 0 = 0 := by
      match r, h with
      | r + 1, _ => rfl
     rw [this]; rfl
    ·rfl
   rw [h0]; rfl
  rw [hv]
  exact ⟨fun h => absurd h (mem_nil n), fun h1 => absurd h1.1 h⟩
theorem full_fP1 : ¬ EmptyP fP1 := fun h => h 0 (by decide) 1 ((mem_fP1 0 1).2 ⟨rfl, by decide, by decide⟩)
theorem full_fP2 : ¬ EmptyP fP2 := fun h => h 0 (by decide) 1 ((mem_fP2 0 1).2 ⟨rfl, by decide, by decide⟩)
theorem empty_pv0 : EmptyP pv0.P := fun r _ n h => by
 have hv : vecPart (V.at' pv0.P.vec r) = [] := by
  have h : V.at' pv0.P.vec r = 0 := by
   unfold V.at'
   split
   ·rfl
   ·rfl
  rw [h]; rfl
 unfold runsAt at h
 rw [hv] at h
 exact mem_nil n h
theorem form_fP2 : InForm fP2 := ⟨by decide, trivial⟩
theorem norm_fP1 {P : Pst} (h : CanonOf (runsAt fP1) P) : P = fP2 := by
 have h2 : CanonOf (runsAt fP2) fP2 := (canon_iff.2 form_fP2 : Canon fP2)
 exact h.unique h2 (fun r _ n => by rw [mem_fP1, mem_fP2])
theorem okR_fix (p : Pv) (hp : p.P = fP2) : OkR [⟨fA, p⟩] 1 := by
 intro j hj
 obtain rfl : j = 0 := by omega
 refine ⟨⟨sku_fA, ?_⟩, fun h => absurd h (by omega)⟩
 show FormP p.P
 rw [hp]
 exact ⟨form_fP2, full_fP2⟩
theorem chk_fix : K.chk [fE1, fE2] = 0 := by decide +kernel
theorem free_fix (p : Pv) (hp : p.P = fP2) : [fE1, fE2].filter (freeB [⟨fA, p⟩]) = [fE2] := by
 have h1 : freeB [⟨fA, p⟩] fE1 = false := by
  unfold freeB
  simp only [List.any_cons, List.any_nil, Bool.or_false, Bool.not_eq_false']
  unfold covB
  rw [show p.P = fP2 from hp]
  show ((decide (fA.size = 0) || fA.toList == fE1.sku.toList) && inB fP2 fE1) = true
  decide +kernel
 have h2 : freeB [⟨fA, p⟩] fE2 = true := by
  unfold freeB
  simp only [List.any_cons, List.any_nil, Bool.or_false, Bool.not_eq_true']
  unfold covB
  rw [show p.P = fP2 from hp]
  show ((decide (fA.size = 0) || fA.toList == fE2.sku.toList) && inB fP2 fE2) = false
  decide +kernel
 rw [List.filter_cons_of_neg (by rw [h1]; decide), List.filter_cons_of_pos h2]
 rfl
theorem notOk_fix (p : Pv) : ¬ OkR [⟨fa, p⟩] 1 := fun h => by
 have := (h 0 (by decide)).1.1
 have e : ([⟨fa, p⟩] : List Rc).getD 0 rc0 = ⟨fa, p⟩ := rfl
 rw [e] at this
 rw [sku_fa] at this
 cases this
theorem psrc_lit2 (w : World) (T : TypeId) (g : Nat) (hg : w.heap.size = g) : PSrc (w.alloc (.cells #[.int .i64 2] T)) ⟨some ⟨g, 0, none⟩, 1, 1, none, 0, 0, fP2⟩ :=
 ⟨vsrc_lit w T _ [2] rfl g 1 hg rfl, SSrc.empty _, (show (1 : Nat) <= 17592186044415 by decide)⟩
def fp1 (g : Nat) : Pv := ⟨some ⟨g, 0, none⟩, 3, 3, some ⟨g + 1, 0, none⟩, 1, 1, fP1⟩
def fp2 (g : Nat) : Pv := ⟨some ⟨g, 0, none⟩, 1, 1, none, 0, 0, fP2⟩
theorem fix_lit1 (w : World) (g : Nat) (hg : w.heap.size = g) : ∃ wA wB wC, w.alloc (.cells #[.int .i64 0, .int .i64 0, .int .i64 0] 3) = wA /\ wA.alloc (.cells #[.int .i64 0, .int .i64 1, .int .i64 2] 45) = wB /\ wB.alloc (.cells #[.string ⟨#[66]⟩, .slice (some ⟨g, 0, none⟩) 3 3, .slice (some ⟨g + 1, 0, none⟩) 1 1, .string ⟨#[65]⟩, .slice none 0 0, .slice none 0 0] 43) = wC /\ wA.heap.size = g + 1 /\ wB.heap.size = g + 2 /\ Below w.heap.size w wC /\ RcS wC (some ⟨g + 2, 0, none⟩) 2 2 [⟨fB, fp1 g⟩, ⟨fA, pv0⟩] := by
 have b1 := below_new w (.cells #[.int .i64 0, .int .i64 0, .int .i64 0] 3)
 have s1 := vsrc_lit w 3 _ [0, 0, 0] rfl g 3 hg rfl
 have z1 : (w.alloc (.cells #[.int .i64 0, .int .i64 0, .int .i64 0] 3)).heap.size = g + 1 := by rw [World.size_alloc, hg]
 replace s1 : V.Src (w.alloc (.cells #[.int .i64 0, .int .i64 0, .int .i64 0] 3)) (some ⟨g, 0, none⟩) 3 3 [0, 0, 0] := s1
 obtain ⟨wA, hA⟩ : ∃ wA, w.alloc (.cells #[.int .i64 0, .int .i64 0, .int .i64 0] 3) = wA := ⟨_, rfl⟩
 rw [hA] at b1 s1 z1
 have b2 := below_new wA (.cells #[.int .i64 0, .int .i64 1, .int .i64 2] 45)
 have s2 := ssrc_one wA 45 0 1 2 (g + 1) z1
 have z2 : (wA.alloc (.cells #[.int .i64 0, .int .i64 1, .int .i64 2] 45)).heap.size = g + 2 := by rw [World.size_alloc, z1]
 obtain ⟨wB, hB⟩ : ∃ wB, wA.alloc (.cells #[.int .i64 0, .int .i64 1, .int .i64 2] 45) = wB := ⟨_, rfl⟩
 rw [hB] at b2 s2 z2
 have hp : PSrc wB (fp1 g) := ⟨s1.below b2, s2, (show (3 : Nat) <= 17592186044415 by decide)⟩
 have h0 : PSrc wB pv0 := PSrc.zero _
 have s3 := rcs_lit wB 43 #[.string ⟨#[66]⟩, .slice (some ⟨g, 0, none⟩) 3 3, .slice (some ⟨g + 1, 0, none⟩) 1 1, .string ⟨#[65]⟩, .slice none 0 0, .slice none 0 0] [⟨fB, fp1 g⟩, ⟨fA, pv0⟩] rfl (g + 2) 2 z2 rfl (by decide) (fun r hr => by
  rcases List.mem_cons.1 hr with rfl | hr
  ·exact ⟨hp, show fB.size <= maxLen by decide⟩
  ·obtain rfl := List.mem_singleton.1 hr
   exact ⟨h0, by decide⟩)
 have b3 := below_new wB (.cells #[.string ⟨#[66]⟩, .slice (some ⟨g, 0, none⟩) 3 3, .slice (some ⟨g + 1, 0, none⟩) 1 1, .string ⟨#[65]⟩, .slice none 0 0, .slice none 0 0] 43)
 have b12 := b1.trans (b2.mono b1.size)
 exact ⟨wA, wB, _, hA, hB, rfl, z1, z2, b12.trans (b3.mono b12.size), s3⟩
theorem fix_lit2 (w : World) (g : Nat) (hg : w.heap.size = g) (s : ByteArray) (hs : s.size <= maxLen) : ∃ wA wC, w.alloc (.cells #[.int .i64 2] 3) = wA /\ wA.alloc (.cells #[.string s, .slice (some ⟨g, 0, none⟩) 1 1, .slice none 0 0] 43) = wC /\ wA.heap.size = g + 1 /\ Below w.heap.size w wC /\ RcS wC (some ⟨g + 1, 0, none⟩) 1 1 [⟨s, fp2 g⟩] := by
 have b1 := below_new w (.cells #[.int .i64 2] 3)
 have s1 := psrc_lit2 w 3 g hg
 have z1 : (w.alloc (.cells #[.int .i64 2] 3)).heap.size = g + 1 := by rw [World.size_alloc, hg]
 obtain ⟨wA, hA⟩ : ∃ wA, w.alloc (.cells #[.int .i64 2] 3) = wA := ⟨_, rfl⟩
 rw [hA] at b1 s1 z1
 have s3 := rcs_lit wA 43 #[.string s, .slice (some ⟨g, 0, none⟩) 1 1, .slice none 0 0] [⟨s, fp2 g⟩] rfl (g + 1) 1 z1 rfl (by decide) (fun r hr => by
  obtain rfl := List.mem_singleton.1 hr
  exact ⟨s1, hs⟩)
 have b3 := below_new wA (.cells #[.string s, .slice (some ⟨g, 0, none⟩) 1 1, .slice none 0 0] 43)
 exact ⟨wA, _, hA, rfl, z1, b1.trans (b3.mono b1.size), s3⟩
theorem fix_lit3 (w : World) (g : Nat) (hg : w.heap.size = g) : ∃ wC, w.alloc (.cells #[.int .i64 0, .int .i64 2, .string ⟨#[65]⟩, .int .i64 5, .int .i64 0, .int .i64 3, .string ⟨#[66]⟩, .int .i64 1] 49) = wC /\ Below w.heap.size w wC /\ K.ESrc wC (some ⟨g, 0, none⟩) 2 2 [fE1, fE2] /\ K.ESrc wC (some ⟨g, 4, none⟩) 1 1 [fE2] := by
 subst hg
 have h := K.lit_esrc w [fE1, fE2] #[.int .i64 0, .int .i64 2, .string ⟨#[65]⟩, .int .i64 5, .int .i64 0, .int .i64 3, .string ⟨#[66]⟩, .int .i64 1] rfl 49 2 rfl (by decide) (by decide)
 refine ⟨_, rfl, below_new _ _, h, rfl, (fun h => by cases h), fun ad e t ht => ?_, by decide, by decide⟩
 obtain rfl := Option.some.inj e
 obtain rfl : t = 0 := by omega
 have := h.2.2.1 _ rfl 1 (by decide)
 rw [Addr.add_lit] at this ⊢
 exact this
theorem fix_lit4 (w : World) (g : Nat) (hg : w.heap.size = g) : ∃ wC, w.alloc (.cells #[.string ⟨#[97]⟩, .slice none 0 0, .slice none 0 0] 43) = wC /\ Below w.heap.size w wC /\ RcS wC (some ⟨g, 0, none⟩) 1 1 [⟨fa, pv0⟩] := by
 have h0 : PSrc w pv0 := PSrc.zero _
 have s3 := rcs_lit w 43 #[.string ⟨#[97]⟩, .slice none 0 0, .slice none 0 0] [⟨fa, pv0⟩] rfl g 1 hg rfl (by decide) (fun r hr => by
  obtain rfl := List.mem_singleton.1 hr
  exact ⟨h0, by decide⟩)
 exact ⟨_, rfl, below_new _ _, s3⟩
theorem fixed_any (w : World) : Calls Tryz.prog 5 #[] w fun e w' => e = .returned (.bool true) /\ Below w.heap.size w w' := by
 obtain ⟨g1, hg1⟩ : ∃ g1, w.heap.size = g1 := ⟨_, rfl⟩
 obtain ⟨wA, wB, wC, hA, hB, hC, z1, z2, b1, S1⟩ := fix_lit1 w g1 hg1
 have HB1 := hide b1
 have HS1 := hide S1
 clear b1 S1
 go_enter Tryz.func5, Tryz.ntmps5
 go_wp2_with fail
 clear hA hB hC z1 z2 hg1
 refine (sortTwo_any (some ⟨g1 + 2, 0, none⟩) 2 ⟨fB, fp1 g1⟩ ⟨fA, pv0⟩ _ HS1.out sku_fB sku_fA full_fP1 empty_pv0).mono ?_
 rintro x w2 ⟨⟨o2, n2, c2⟩, c, rfl, S2, hn2, hcs, b2, Cc⟩
 dsimp only at S2 hn2
 subst hn2
 have hcp : c.p.P = fP2 := norm_fP1 Cc
 obtain ⟨g2, hg2⟩ : ∃ g2, w2.heap.size = g2 := ⟨_, rfl⟩
 obtain ⟨wD, wE, hD, hE, z3, b3, S3⟩ := fix_lit2 w2 g2 hg2 fB (by decide)
 have HB2 := hide (HB1.out.trans (b2.mono HB1.out.size))
 have HB3 := hide (HB2.out.trans (b3.mono HB2.out.size))
 have HS2 := hide (S2.below b3)
 have HS3 := hide S3
 have HPl : Hid (plR [c] = plR [⟨fB, fp2 g2⟩]) := by
  show _ = _
  simp only [plR, List.map_cons, List.map_nil]
  rw [hcs, hcp]
  rfl
 replace hE : wD.alloc (.cells #[.string ⟨#[66]⟩, .slice (some ⟨g2, 0, none⟩) 1 1, .slice none 0 0] 43) = wE := hE
 clear S2 b2 b3 S3 Cc hcs hcp HB1 HS1
 go_wp2_with fail
 clear hD hE z3 hg2
 refine (sameRecords_any o2 (some ⟨g2 + 1, 0, none⟩) 1 1 c2 1 [c] [⟨fB, fp2 g2⟩] _ HS2.out HS3.out).mono ?_
 rintro x w3 ⟨x3, rfl, hx3, b3⟩
 obtain rfl : x3 = true := hx3.2 HPl.out
 have HB4 := hide (HB3.out.trans (b3.mono HB3.out.size))
 clear hx3 b3 HS2 HS3 HPl HB2 HB3
 obtain ⟨g3, hg3⟩ : ∃ g3, w3.heap.size = g3 := ⟨_, rfl⟩
 obtain ⟨wF, hF, b5, S5, S5t⟩ := fix_lit3 w3 g3 hg3
 obtain ⟨g4, hg4⟩ : ∃ g4, wF.heap.size = g4 := ⟨_, rfl⟩
 obtain ⟨wG, wH, hG, hH, z6, b6, S6⟩ := fix_lit2 wF g4 hg4 fA (by decide)
 replace hH : wG.alloc (.cells #[.string ⟨#[65]⟩, .slice (some ⟨g4, 0, none⟩) 1 1, .slice none 0 0] 43) = wH := hH
 have HB5 := hide (HB4.out.trans (b5.mono HB4.out.size))
 have HB6 := hide (HB5.out.trans (b6.mono HB5.out.size))
 have HS5 : Hid (K.ESrc wH (some ⟨g3, 0, none⟩) 2 2 [fE1, fE2] /\ K.ESrc wH (some ⟨g3, 4, none⟩) 1 1 [fE2]) := ⟨S5.below b6, S5t.below b6⟩
 have HS6 := hide S6
 have HWt : Hid (RSm [⟨fA, fp2 g4⟩]) := ⟨show (1 : Nat) <= 209716 by decide, fun r hr => by obtain rfl := List.mem_singleton.1 hr; exact Nat.zero_le _⟩
 clear b5 S5 S5t b6 S6 HB4 HB5
 go_wp2_with fail
 clear hF hG hH z6 hg3 hg4
 refine (apply_any (some ⟨g3, 0, none⟩) (some ⟨g4 + 1, 0, none⟩) 2 2 1 1 [fE1, fE2] [⟨fA, fp2 g4⟩] _ HS5.out.1 HS6.out HWt.out.wt (by decide)).mono ?_
 rintro x w4 (⟨-, -, a4, n4, c4, rfl, S4, b4, -⟩ | ⟨hno, -⟩)
 rotate_left
 ·exact absurd ⟨chk_fix, okR_fix (fp2 g4) rfl⟩ hno
 rw [free_fix (fp2 g4) rfl] at S4
 have HS4 := hide S4
 have HSt := hide (HS5.out.2.below b4)
 have HB7 := hide (HB6.out.trans (b4.mono HB6.out.size))
 clear S4 b4 HS5 HS6 HWt HB6
 go_wp2_with fail
 refine (sameEntries_any a4 (some ⟨g3, 4, none⟩) n4 1 c4 1 [fE2] [fE2] _ HS4.out HSt.out).mono ?_
 rintro x w5 ⟨x5, rfl, hx5, b5⟩
 obtain rfl : x5 = true := hx5.2 rfl
 have HB8 := hide (HB7.out.trans (b5.mono HB7.out.size))
 clear hx5 b5 HS4 HSt HB7
 obtain ⟨g5, hg5⟩ : ∃ g5, w5.heap.size = g5 := ⟨_, rfl⟩
 obtain ⟨wI, hI, b9, S9⟩ := fix_lit4 w5 g5 hg5
 have HB9 := hide (HB8.out.trans (b9.mono HB8.out.size))
 have HS9 := hide S9
 clear b9 S9 HB8
 go_wp2_with fail
 clear hI hg5
 refine (keepCheck_any (some ⟨g5, 0, none⟩) 1 1 [⟨fa, pv0⟩] _ HS9.out).mono ?_
 rintro x w6 ⟨z, rfl, ⟨-, hO⟩ | ⟨rfl, -⟩, b6⟩
 ·exact absurd hO (notOk_fix pv0)
 have HBa := hide (HB9.out.trans (b6.mono HB9.out.size))
 clear b6 HB9 HS9
 go_wp2_with fail
 go_ret
 exact ⟨rfl, HBa.out⟩
end
section
open Go.RowKit
def bsPs (a : Array (Nat × Value)) : Sem Value := Instr.buildSlice 59 2 a
theorem bsPs_eq (a : Array (Nat × Value)) : Instr.buildSlice 59 2 a = bsPs a := rfl
theorem run_bsPs (p q : Pv) (w : World) : (bsPs #[(0, .agg (PC p)), (1, .agg (PC q))]).run Tryz.prog w = .ok (.slice (some ⟨w.heap.size, 0, none⟩) 2 2) (w.alloc (.cells #[.slice p.vo p.vn p.vc, .slice p.co p.cn p.cc, .slice q.vo q.vn q.vc, .slice q.co q.cn q.cc] 27)) := by kernel_rfl
end
end Go.Proofs.YtalcmdjiejhkgaaGreat
