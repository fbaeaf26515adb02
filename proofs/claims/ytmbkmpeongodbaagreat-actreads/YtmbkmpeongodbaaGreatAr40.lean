/- BAq LFnd LFn2 -/
import Derived.Test.YtmbkmpeongodbaaGreatTk
import Derived.Test.YtmbkmpeongodbaaGreatAr31
import Derived.Deep.CutRange
import Derived.Test.YtmbkmpeongodbaaGreatAr29
namespace Go.Proofs.YtmbkmpeongodbaaGreat
open Go.RowKit Go.Maps Go.Sort
attribute [local go_sem ↓] ldP_eq stP_eq ldRe_eq stRe_eq
attribute [local go_sem] cells_ReV ReC_size zero_ReC
theorem nodup_len {α : Type} [DecidableEq α] : ∀ (l m : List α), l.Nodup → (∀ x ∈ l, x ∈ m) → l.length ≤ m.length
 | [], _, _, _ => Nat.zero_le _
 | x :: l, m, hn, hs => by
  have h1 := List.nodup_cons.1 hn
  have hx := hs x List.mem_cons_self
  have h2 := nodup_len l (m.erase x) h1.2 (fun y hy => (List.mem_erase_of_ne (fun e => h1.1 (by rw [← e]; exact hy))).2 (hs y (List.mem_cons_of_mem _ hy)))
  rw [List.length_erase_of_mem hx] at h2
  have := List.length_pos_of_mem hx
  simp only [List.length_cons]
  omega
theorem cb_self : ∀ a : List UInt8, Lib.compareBytes a a = 0
 | [] => by simp [Lib.compareBytes]
 | a :: x => by
  have h0 : ¬ a < a := UInt8.lt_irrefl a
  simpa [Lib.compareBytes, h0] using cb_self x
theorem fold_len {R F : List Rc} (h : FoldOf R F) : F.length ≤ R.length := by
 have h1 := nodup_len (F.map (fun x => x.s.data.toList)) (R.map (fun x => x.s.data.toList)) (by
  refine List.pairwise_map.2 (h.1.imp fun {a b} hab e => ?_)
  have e2 : a.s = b.s := by cases ha : a.s; cases hb : b.s; rw [ha, hb] at e; simpa using e
  rw [e2] at hab
  exact absurd hab (by unfold cmpS; rw [cb_self]; decide)) (fun x hx => by
  obtain ⟨f, hf, rfl⟩ := List.mem_map.1 hx
  obtain ⟨r, hr, e⟩ := (h.2.1 f hf).1
  exact List.mem_map.2 ⟨r, hr, by rw [e]⟩)
 simpa using h1
theorem clone_gives {w w' : World} {L : List K.En} {n : Nat} {ao : Option Addr} {c : Nat} (hn : L.length = n) (hs : ∀ e ∈ L, e.sku.size ≤ maxLen) (hb : n ≤ 3518437208883) (O : K.OwnE w.heap.size w.heap.size w w' ao c L) : K.ESrc w' ao n c L ∧ ∀ ad, ao = some ad → w.heap.size ≤ ad.block := by
 have h := O.src hs (by omega)
 rw [hn] at h
 exact h
set_option maxRecDepth 100000 in
set_option maxHeartbeats 3200000 in
theorem apply_any (ao bo : Option Addr) (n cap m cap' : Nat) (L : List K.En) (R : List Rc) (w : World) (hS : K.ESrc w ao n cap L) (hR : RcS w bo m cap' R) (hwt : ∀ s, wt (ofS R s) ≤ 8796093022207) (hnm : m * (n + 1) ≤ 8796093022207) :
  Calls Tryz.prog 43 #[.slice ao n cap, .slice bo m cap'] w fun x w' => ApA w w' x L R m := by
 have HS := hide hS
 have HR := hide hR
 have HW := hide hwt
 have HNM := hide hnm
 have HL : Hid (L.length = n ∧ n ≤ 3518437208883) := ⟨hS.1, hS.2.2.2.2⟩
 have hnb := HL.out.2
 have HM : Hid (R.length = m) := hR.len
 clear hS hR hwt hnm
 go_enter Tryz.func43, Tryz.ntmps43
 go_wp2_with fail
 refine (K.lcheck_any ao n cap L _ HS.out).mono ?_
 rintro x w1 ⟨rfl, b1⟩
 have HB1 := hide b1
 have HS1 := hide (HS.out.below b1)
 have HR1 := hide (HR.out.below b1)
 clear b1 HS HR
 rcases K.chk_cases L with hc | hc
 rotate_left
 ·have HE : Hid (ApA w w1 (.returned (.tuple #[.slice none 0 0, .int .i64 1])) L R m) := .inr ⟨fun h => (by rw [hc] at h; cases h.1), _, _, _, rfl, K.ESrc.none _, HB1.out, fun ad h => by cases h⟩
  rw [hc]
  clear hc
  go_wp2_with fail
  go_ret2
  exact HE.out
 ·rw [hc]
  have HC := hide hc
  clear hc
  go_wp2_with fail
  refine (fold_any bo m cap' R _ HR1.out HW.out).mono ?_
  rintro x w2 (⟨hO, ⟨qo, qn, qc⟩, F, rfl, S2, b2, -, hF⟩ | ⟨hO, rfl, b2⟩)
  rotate_left
  ·have HE : Hid (ApA w w2 (.returned (.tuple #[.slice none 0 0, .int .i64 1])) L R m) := .inr ⟨fun h => hO h.2, _, _, _, rfl, K.ESrc.none _, HB1.out.trans (b2.mono HB1.out.size), fun ad h => by cases h⟩
   clear hO b2
   go_wp2_with fail
   go_ret2
   exact HE.out
  ·rw [show HsV ⟨qo, qn, qc⟩ = Value.slice qo qn qc from rfl]
   replace S2 : RcS w2 qo qn qc F := S2
   have HO := hide hO
   have HB2 := hide (HB1.out.trans (b2.mono HB1.out.size))
   have HS2 := hide (HS1.out.below b2)
   have HF := hide hF
   have HFS := hide S2
   have HFl : Hid (F.length = qn) := S2.len
   have hqb := S2.big
   have HFm : Hid (qn ≤ m) := by show _ ≤ _; rw [← HFl.out, ← HM.out]; exact fold_len hF
   clear hO b2 HS1 HB1 HR1 hF S2
   by_cases hq0 : qn = 0
   ·have hqi : ((qn : Int) == 0) = true := by simp [hq0]
    have hF0 : F = [] := List.eq_nil_of_length_eq_zero (HFl.out.trans hq0)
    have HFr : Hid (L.filter (freeB R) = L) := by show _ = _; exact free_nil HC.out (hF0 ▸ HF.out)
    clear hF0
    cases ao with
    | none =>
     have h00 := HS2.out.2.1 rfl
     obtain ⟨rfl, rfl⟩ := h00
     go_wp2_with fail
     refine (K.clone_nil _).mono ?_
     rintro x w3 ⟨rfl, rfl⟩
     have HE : Hid (ApA w w3 (.returned (.tuple #[.slice none 0 0, .int .i64 0])) L R m) := .inl ⟨HC.out, HO.out, none, 0, 0, rfl, by rw [HFr.out]; exact HS2.out, HB2.out, fun ad h => by cases h⟩
     go_wp2_with fail
     go_ret2
     exact HE.out
    | some ad =>
     go_wp2_with fail
     refine (K.clone_any ad n cap L _ HS2.out).mono ?_
     rintro x w3 ⟨a3, c3, rfl, O3⟩
     have h3 := clone_gives HL.out.1 HS2.out.2.2.2.1 HL.out.2 O3
     have HE : Hid (ApA w w3 (.returned (.tuple #[.slice a3 n c3, .int .i64 0])) L R m) := .inl ⟨HC.out, HO.out, a3, n, c3, rfl, by rw [HFr.out]; exact h3.1, HB2.out.trans (O3.below.mono HB2.out.size), fun ad h => Nat.le_trans HB2.out.size (h3.2 ad h)⟩
     clear O3 h3
     go_wp2_with fail
     go_ret2
     exact HE.out
   ·have hqi : ((qn : Int) == 0) = false := by simp [hq0]
    have HSK : Hid (∀ e ∈ L, ¬ e.sku.size = 0) := fun e he => ce_sku (chk_ce HC.out e he)
    go_wp2_with fail
    refine (dotsBy_any ao n cap L _ HS2.out HSK.out).mono ?_
    rintro x w3 ⟨kk, rfl, hM⟩
    obtain ⟨K0, f, M3⟩ := hM
    have HM3 := hide M3
    have HB3 := hide (HB2.out.trans (M3.below.mono HB2.out.size))
    have HS3 := hide (HS2.out.below M3.below)
    have HF3 := hide (HFS.out.below M3.below)
    obtain ⟨b, Hb⟩ : ∃ b, Hid (w2.heap.size = b) := ⟨_, rfl⟩
    rw [Hb.out]
    clear M3 HS2 HFS HB2
    go_wp2_with fail
    go_loopw [10, 35] (fun v i wr => ∃ (k : Nat) (x : Hs), k ≤ qn ∧ v = .slice x.o x.n x.c ∧ i = .int .i64 (k : Int) ∧ Hid (∃ X : List Pv, OwnP w3.heap.size w3 wr x X ∧ (∀ p ∈ X, FarH x p) ∧ BX L (F.take k) X ∧ x.n = k)) (fun _ i _ => qn - (intOf i).toNat)
    case atStart => exact ⟨0, hs0, Nat.zero_le _, rfl, rfl, ⟨[], OwnP.nil w3, fun p h => (by cases h), BX.nil L, rfl⟩⟩
    case round =>
     obtain ⟨k, x, hk, rfl, rfl, HX⟩ := hrel
     rename World => wr
     by_cases hlt : k < qn
     ·have hlti : (k : Int) < (qn : Int) := by omega
      obtain ⟨X, O, hFar, hBX, hxn⟩ := HX.out
      obtain ⟨ad, hao, A0⟩ := (HF3.out.below O.below).at k hlt
      have hOk := (HF3.out.below O.below).okAt k hlt
      have HT := hide (take_snocF F k (by rw [HFl.out]; exact hlt))
      obtain ⟨r, Hr⟩ : ∃ r, Hid (F.getD k rc0 = r) := ⟨_, rfl⟩
      rw [Hr.out] at A0 hOk HT
      have hsk := hOk.2
      have hld := run_laRe A0
      obtain ⟨g7, hg7⟩ : ∃ g7, wr.heap.size = g7 := ⟨_, rfl⟩
      obtain ⟨w7, hst, X7, B7, S7⟩ := madeRe wr (mkR r) g7 hg7
      have O7 := (O.later B7).later (below_drew1 w7)
      have M7 := ((HM3.out.later O.below).later B7).later (below_drew1 w7)
      have l0 : (Instr.lookup 129 (.map (some b)) (.string r.s) false).run Tryz.prog w7.drew = .ok (.slice (f r.s).o (f r.s).n (f r.s).c) w7.drew := by
       have := M7.look keyS Tryz.underlying9 Tryz.underlying129 (zeroDs _) r.s hsk
       rwa [Hb.out] at this
      have hdl := M7.len r.s
      have hdb := dotsS_len L r.s
      have HD7 : Hid (RSrc w7.drew (f r.s).o (f r.s).n (f r.s).c (dotsS L r.s)) := by
       have h := M7.rows r.s
       have e : (HsV (f r.s)) = .slice (f r.s).o (dotsS L r.s).length (f r.s).c := by show Value.slice _ _ _ = _; rw [hdl]
       rw [e, hdl] at h
       have := (OwnD.src (B0 := w2.heap.size) ⟨h, M7.below, M7.hb.2.2, by omega⟩ (by have := HL.out; omega)).1
       show RSrc _ _ _ _ _
       rw [hdl]
       exact this
      have HSt : Hid (∀ W : World, W.heap[g7]? = w7.heap[g7]? → W.cell? ⟨g7, 0, none⟩ = some (.string r.s) ∧ (ldP (.pointer (some ⟨g7, 1, none⟩))).run Tryz.prog W = .ok (.agg #[.slice r.p.vo r.p.vn r.p.vc, .slice r.p.co r.p.cn r.p.cc]) W) := fun W h => by
       have X : ReBox W g7 (mkR r) := h.trans X7
       exact ⟨X.sk, run_ldP X.past⟩
      have Hg7 : Hid (g7 < w7.heap.size) := by show _ < _; omega
      have Hlt := hide hlt
      have HO7 := hide O7
      have HFa := hide hFar
      have HBX := hide hBX
      have Hxn : Hid (x.n = k ∧ k ≤ 2199023255552) := ⟨hxn, by omega⟩
      have HP7 : Hid (PSrc w7.drew r.p) := ((hOk.1.below B7).below (below_drew1 w7))
      have HGX : Hid (∀ j, (HsV x).ownBlock = some j → j < g7) := fun j hj => by have := (O.own.lt j hj).2; omega
      subst hao
      clear A0 X7 B7 S7 M7 O7 O hFar hBX hlt hk hOk hdl hdb hxn HX
      go_upto_region 14 with fail
      clear hst hld
      refine wp_region_held_drew (S := fun W => W.cell? ⟨g7, 0, none⟩ = some (.string r.s) ∧ (ldP (.pointer (some ⟨g7, 1, none⟩))).run Tryz.prog W = .ok (.agg #[.slice r.p.vo r.p.vn r.p.vc, .slice r.p.co r.p.cn r.p.cc]) W) (by kernel_rfl) (HSt.out _ rfl) (fun hHeld => ?_)
      refine wTk 0 ⟨some 39, .move (.tmp 10), 108, "bars.go:44", #[], none⟩ rfl ?_
      refine wTk 1 ⟨some 40, .move (.tmp 9), 129, "bars.go:44", #[], none⟩ rfl ?_
      refine wTk 2 ⟨some 41, .fieldAddr 65 (.tmp 12) 0, 0, "bars.go:44", #[], none⟩ rfl ?_
      refine wTk 3 ⟨some 42, .load 9 (.tmp 41), 9, "bars.go:44", #[⟨2, .data⟩], none⟩ rfl ?_
      refine wTk 6 ⟨some 45, .fieldAddr 65 (.tmp 12) 1, 0, "bars.go:44", #[], none⟩ rfl ?_
      refine wTk 7 ⟨some 46, .load 26 (.tmp 45), 26, "bars.go:44", #[⟨6, .data⟩], none⟩ rfl ?_
      refine wpAnyH_ready (rs := [4]) (by kernel_rfl) (by simp) (.cons rfl (fun K hK => ?_) .nil)
      go_simp
      refine hK.out _ _ (HSt.out _ rfl) (fun hHeld => ?_)
      clear hK K
      refine wpAnyH_ready (rs := [5]) (by kernel_rfl) (by simp) (.cons rfl (fun K hK => ?_) .nil)
      go_simp
      go_wp2_with fail
      refine (pastOfN_any (f r.s).o (f r.s).n (f r.s).c (dotsS L r.s) _ HD7.out).mono ?_
      rintro e w8 ⟨pd, rfl, Sd, -, b8, Cd⟩
      have HO8 := hide (HO7.out.later b8)
      have HP8 := hide (HP7.out.below b8)
      have z8 : w8.heap[g7]? = w7.heap[g7]? := b8.block g7 Hg7.out
      have HZ8 := hide z8
      have HG8 : Hid (g7 < w8.heap.size) := Nat.lt_of_lt_of_le Hg7.out b8.size
      have HSd := hide Sd
      have HCd := hide Cd
      refine hK.out _ _ (HSt.out _ z8) (fun hHeld => ?_)
      clear hK K
      clear b8 z8 Sd Cd HO7 HP7 l0
      refine wpAnyH_ready (rs := [8]) (by kernel_rfl) (by simp) (.cons rfl (fun K hK => ?_) .nil)
      go_simp
      go_wp2_with fail
      refine (pastMeet_any pd r.p _ HSd.out HP8.out).mono ?_
      rintro e w9 ⟨pm, rfl, Sm, Nm, b9, Cm⟩
      have HO9 := hide (HO8.out.later b9)
      have z9 : w9.heap[g7]? = w7.heap[g7]? := (b9.block g7 HG8.out).trans HZ8.out
      have HZ9 := hide z9
      have HG9 : Hid (g7 < w9.heap.size) := Nat.lt_of_lt_of_le HG8.out b9.size
      have HSm := hide Sm
      have HFm2 : Hid (FarH x pm) := fun j hj => PFar.new Nm (by have := HGX.out j hj; have := HG8.out; omega)
      have HBm : Hid (BX L (F.take (k + 1)) (X ++ [pm])) := by show BX _ _ _; rw [HT.out]; exact HBX.out.snoc HCd.out Cm
      refine hK.out _ _ (HSt.out _ z9) (fun hHeld => ?_)
      clear hK K
      clear b9 z9 Sm Nm Cm HO8 HP8
      obtain ⟨ga, ca, wa, haa, Oa, Fa, ka⟩ := HO9.out.app HFa.out pm HSm.out HFm2.out (by have := Hxn.out; omega)
      have HAA : Hid ((Builtin.append_ #[108, 108] 108 #[.slice x.o x.n x.c, .slice (some ⟨w9.heap.size, 0, none⟩) 1 1]).run Tryz.prog (w9.alloc (.cells #[.slice pm.vo pm.vn pm.vc, .slice pm.co pm.cn pm.cc] 26)) = .ok (.slice (some ⟨ga, 0, none⟩) (x.n + 1) ca) wa) := haa
      have zA : (w9.alloc (.cells #[.slice pm.vo pm.vn pm.vc, .slice pm.co pm.cn pm.cc] 26)).heap[g7]? = w7.heap[g7]? := (Below.heap_alloc w9 _ g7 HG9.out).trans HZ9.out
      have za : wa.heap[g7]? = w7.heap[g7]? := (ka g7 HG9.out (fun e => by have := HGX.out g7 e; omega)).trans HZ9.out
      have HOa : Hid (∃ X : List Pv, OwnP w3.heap.size w3 wa ⟨some ⟨ga, 0, none⟩, x.n + 1, ca⟩ X ∧ (∀ p ∈ X, FarH ⟨some ⟨ga, 0, none⟩, x.n + 1, ca⟩ p) ∧ BX L (F.take (k + 1)) X ∧ x.n + 1 = k + 1) := ⟨_, Oa, Fa, HBm.out, by rw [Hxn.out.1]⟩
      clear haa Oa Fa ka
      refine wpAnyH_ready (rs := [9]) (by kernel_rfl) (by simp) (.cons rfl (fun K hK => ?_) .nil)
      go_simp
      refine hK.out _ _ (HSt.out _ zA) (fun hHeld => ?_)
      clear hK K
      refine wpAnyH_ready (rs := [10]) (by kernel_rfl) (by simp) (.cons rfl (fun K hK => ?_) .nil)
      refine step_appM (by rfl) (.tmp 39) (.tmp 48) (by rfl) (by rfl) (by rfl) HAA.out ?_
      refine hK.out _ _ (HSt.out _ za) (fun hHeld => ?_)
      clear hK K
      refine wTk 11 ⟨some 10, .assign (.tmp 49), 108, "bars.go:44", #[⟨10, .data⟩, ⟨10, .chain⟩, ⟨0, .phase⟩, ⟨1, .phase⟩, ⟨2, .phase⟩, ⟨3, .phase⟩, ⟨4, .phase⟩, ⟨5, .phase⟩, ⟨6, .phase⟩, ⟨7, .phase⟩, ⟨8, .phase⟩, ⟨9, .phase⟩, ⟨10, .phase⟩], none⟩ rfl ?_
      refine wpAnyH_done (by kernel_rfl) ?_ _
      clear hHeld
      clear zA za
      go_wp2_with fail
      go_roundw
      case rel => exact ⟨k + 1, ⟨some ⟨ga, 0, none⟩, x.n + 1, ca⟩, Hlt.out, rfl, by simp, HOa⟩
      case measure => simp [intOf]; have := Hlt.out; omega
     ·have hlti : ¬ (k : Int) < (qn : Int) := by omega
      obtain ⟨X, O, -, hBX, hxn⟩ := HX.out
      have hT : F.take k = F := List.take_of_length_le (by have := HFl.out; omega)
      rw [hT] at hBX
      have HBX := hide hBX
      have HP : Hid (PRow wr x.o x.n X) := O.row
      have HWX : Hid (wt X ≤ 8796093022207) := by
       show _ ≤ _
       have h1 := hBX.2
       rw [HFl.out, HL.out.1] at h1
       have h2 := Nat.mul_le_mul_right (n + 1) HFm.out
       have h3 := HNM.out
       omega
      have hxq : x.n ≤ 8796093022207 := by omega
      have HBr := hide (HB3.out.trans (O.below.mono HB3.out.size))
      have HSr := hide (HS3.out.below O.below)
      clear O hBX hT hxn HX hk hlt
      go_wp2_with fail
      refine (pastJoin_any x.o x.n x.c X _ HP.out HWX.out hxq).mono ?_
      rintro e w8 ⟨pj, rfl, Sj, -, b8, Cj⟩
      have HB8 := hide (HBr.out.trans (b8.mono HBr.out.size))
      have HS8 := hide (HSr.out.below b8)
      have HSj := hide Sj
      have HCj := hide Cj
      clear b8 Sj Cj HBr HSr
      go_wp2_with fail
      refine (outside_any ao n cap L pj _ HS8.out HSj.out).mono ?_
      rintro e w9 (⟨-, -, a9, n9, c9, rfl, S9, b9, N9⟩ | ⟨hno, -⟩)
      rotate_left
      ·exact absurd ⟨HC.out, canon_iff.1 HCj.out.canon⟩ hno
      ·have HE : Hid (ApA w w9 (.returned (.tuple #[.slice a9 n9 c9, .int .i64 0])) L R m) := .inl ⟨HC.out, HO.out, a9, n9, c9, rfl, by rw [← free_of HC.out HF.out HBX.out HCj.out]; exact S9, HB8.out.trans (b9.mono HB8.out.size), fun ad h => Nat.le_trans HB8.out.size (N9 ad h)⟩
       clear S9 b9 N9
       go_wp2_with fail
       go_ret2
       exact HE.out
end Go.Proofs.YtmbkmpeongodbaaGreat
namespace Go.Proofs.YtmbkmpeongodbaaGreat.K
open Go.RowKit
attribute [local go_sem ↓] ld28_eq st28_eq ld26_eq run_eqD run_eq28
attribute [local go_sem] zero_EC cells_EV EC_size
structure DotAt (w : World) (g : Nat) (e : En) : Prop where
 c0 : w.cell? ⟨g, 0, none⟩ = some (.int .i64 e.rep)
 c1 : w.cell? ⟨g, 1, none⟩ = some (.int .i64 e.num)
theorem DotAt.on {w w' : World} {g : Nat} {e : En} (D : DotAt w g e) (hb : Below w.heap.size w w') : DotAt w' g e :=
 ⟨(hb.cell (World.block_lt_of_cell? _ _ D.c0)).trans D.c0, (hb.cell (World.block_lt_of_cell? _ _ D.c1)).trans D.c1⟩
theorem dot_new (w : World) (e : En) : DotAt (w.alloc (.cells (DC e) 44)) w.heap.size e := ⟨by simp [DC], by simp [DC]⟩
theorem run_ldD {w : World} {g : Nat} {e : En} (D : DotAt w g e) : (ld26 (.pointer (some ⟨g, 0, none⟩))).run Tryz.prog w = .ok (.agg (DC e)) w := by
 have hl := run_loadCells_list (P := Tryz.prog) (w := w) ⟨g, 0, none⟩ (DC e).toList (fun j v hv => by
  match j, hv with
  | 0, hv => cases hv; rw [add_zero]; exact D.c0
  | 1, hv => cases hv; rw [Addr.add_lit]; exact D.c1
  | j + 2, hv => simp [DC] at hv)
 cases hq : Tryz.prog.info? 44 with
 | none => have := size26; simp [hq] at this
 | some x =>
  have hs : x.size = 2 := by have := size26; simpa [hq] using this
  have hagg : (isAgg 44).run Tryz.prog w = .ok true w := by
   unfold isAgg
   rw [Sem.run_bind, run_underlying Tryz.underlying44 w]
   rfl
  have e4 : (DC e).toList.length = 2 := rfl
  rw [e4] at hl
  unfold ld26
  simp only [Instr.loadAt, Instr.sureAddr, Sem.run_bind, Sem.run_pure, Result.andThen]
  simp [loadVar, Sem.run_bind, hagg, sizeOf, typeInfo, hq, hs, hl]
theorem cells_DV (e : En) : (Value.agg (DC e)).cells = DC e := by simp [Value.cells]
attribute [local go_sem] cells_DV
def IxOf (L : List En) (x : En) (k : Int) : Prop := (k = -1 ∧ ∀ i, i < L.length → sameDot (L.getD i en0) x = false) ∨ ∃ i, i < L.length ∧ k = (i : Int) ∧ sameDot (L.getD i en0) x = true ∧ ∀ j, j < i → sameDot (L.getD j en0) x = false
def fdE (L : List En) (k : Int) : En := if k < 0 then en0 else L.getD k.toNat en0
def fdB (k : Int) : Bool := decide (0 ≤ k)
theorem resF {fn : Func} {p q : Tmp} {w : World} {g : Nat} {T : TypeId} {e : En} {b : Value} (h : fn.results = #[.cell p 46, .tmp q]) {tmps : Array Value} (hp : tmps.getD p undef = .pointer (some ⟨g, 0, none⟩)) (hq : tmps.getD q undef = b) (A : Box w g T e) :
  (results fn tmps).run Tryz.prog w = .ok (.tuple #[EV e, b]) w := by
 have hl := run_lv28 A.at
 simp only [results, h]
 rw [Array.getD_eq_getD_getElem?] at hp hq
 simp [hp, hq, asAddr, hl]
def GivesF (w w' : World) (y : Ending) (L : List En) (x : En) : Prop := ∃ k, y = .returned (.tuple #[EV (fdE L k), .bool (fdB k)]) ∧ IxOf L x k ∧ Below w.heap.size w w'
end Go.Proofs.YtmbkmpeongodbaaGreat.K
namespace Go.Proofs.YtmbkmpeongodbaaGreat.K
open Go.RowKit
attribute [local go_sem ↓] ld28_eq st28_eq ld26_eq run_eqD run_eq28
attribute [local go_sem] zero_EC cells_EV EC_size
attribute [local go_sem] cells_DV
theorem find1_any (e x : En) (b : Nat) (w : World) (D : DotAt w b x) : Calls Tryz.prog 85 #[EV e, .pointer (some ⟨b, 0, none⟩)] w fun y w' => y = .returned (.bool (sameDot e x)) ∧ Below w.heap.size w w' := by
 have X1 := box_new w 46 e
 have HB := hide (below_new w (.cells (EC e) 46))
 have l1 := run_ld26 X1.at
 have l2 := run_ldD (D.on HB.out)
 clear X1
 go_enter Tryz.func85, Tryz.ntmps85
 go_wp2_with fail
 go_ret
 exact ⟨rfl, HB.out⟩
set_option maxRecDepth 100000 in
set_option maxHeartbeats 4000000 in
theorem index_any (ao : Option Addr) (n cap : Nat) (L : List En) (x : En) (b : Nat) (w : World) (hS : ESrc w ao n cap L) (D : DotAt w b x) :
  Calls Tryz.prog 84 #[.slice ao n cap, .func (.func 85) #[] #[.pointer (some ⟨b, 0, none⟩)]] w fun y w' => ∃ k, y = .returned (.int .i64 k) ∧ IxOf L x k ∧ Below w.heap.size w w' := by
 have HS := hide hS
 have hn := hS.2.2.2.2
 have HL : Hid (L.length = n) := hS.1
 have HD := hide D
 clear hS D
 go_enter Tryz.func84, Tryz.ntmps84
 go_wp2_with fail
 go_loopw [5, 8] (fun _ i wr => ∃ k : Nat, k ≤ n ∧ i = .int .i64 k ∧ Hid ((∀ j, j < k → sameDot (L.getD j en0) x = false) ∧ Below w.heap.size w wr)) (fun _ i _ => n - (intOf i).toNat)
 case atStart => exact ⟨0, Nat.zero_le _, rfl, fun i hi => by omega, Below.refl _ _⟩
 case round =>
  obtain ⟨k, hk, rfl, H⟩ := hrel
  rename World => w4
  by_cases hlt : k < n
  ·obtain ⟨ad, rfl, A0⟩ := (HS.out.below H.out.2).at k hlt
   have hld := run_ld28 A0
   obtain ⟨e, He⟩ : ∃ e, Hid (L.getD k en0 = e) := ⟨_, rfl⟩
   rw [He.out] at hld
   clear A0
   have HC := hide (find1_any e x b w4 (HD.out.on H.out.2))
   obtain ⟨q, Hq⟩ : ∃ q, Hid (sameDot e x = q) := ⟨_, rfl⟩
   rw [Hq.out] at HC
   cases q with
   | false =>
    go_wp2_with fail
    refine HC.out.mono ?_
    rintro y w5 ⟨rfl, b5⟩
    have HN : Hid ((∀ j, j < k + 1 → sameDot (L.getD j en0) x = false) ∧ Below w.heap.size w w5) := ⟨fun j hj => by
     by_cases ej : j = k
     ·rw [ej, He.out]; exact Hq.out
     ·exact H.out.1 j (by omega), H.out.2.trans (b5.mono H.out.2.size)⟩
    clear b5
    go_wp2_with fail
    go_roundw
    case rel => exact ⟨k + 1, by omega, by go_num, HN⟩
    case measure => simp [intOf]; omega
   | true =>
    go_wp2_with fail
    refine HC.out.mono ?_
    rintro y w5 ⟨rfl, b5⟩
    have HN : Hid (IxOf L x (k : Int) ∧ Below w.heap.size w w5) := ⟨Or.inr ⟨k, by rw [HL.out]; exact hlt, rfl, by rw [He.out]; exact Hq.out, H.out.1⟩, H.out.2.trans (b5.mono H.out.2.size)⟩
    clear b5
    go_wp2_with fail
    go_ret
    exact ⟨_, rfl, HN.out⟩
  ·obtain rfl : k = n := by omega
   have HN : Hid (IxOf L x (-1) ∧ Below w.heap.size w w4) := ⟨Or.inl ⟨rfl, by rw [HL.out]; exact H.out.1⟩, H.out.2⟩
   go_wp2_with fail
   go_ret
   exact ⟨_, rfl, HN.out⟩
set_option maxRecDepth 100000 in
set_option maxHeartbeats 4000000 in
theorem find_any (ao : Option Addr) (n cap : Nat) (L : List En) (x : En) (w : World) (hS : ESrc w ao n cap L) :
  Calls Tryz.prog 42 #[.slice ao n cap, .agg (DC x)] w fun y w' => GivesF w w' y L x := by
 have hn := hS.2.2.2.2
 have HL : Hid (L.length = n) := hS.1
 have B1 := below_new w (.cells (DC x) 44)
 have HB2 : Hid (Below w.heap.size w ((w.alloc (.cells (DC x) 44)).alloc (.cells (EC en0) 46))) := B1.trans ((below_new _ _).mono B1.size)
 have HD : Hid (DotAt ((w.alloc (.cells (DC x) 44)).alloc (.cells (EC en0) 46)) w.heap.size x) := (dot_new w x).on (below_new _ _)
 have HX : Hid (Box ((w.alloc (.cells (DC x) 44)).alloc (.cells (EC en0) 46)) (w.heap.size + 1) 46 en0) := by have := box_new (w.alloc (.cells (DC x) 44)) 46 en0; rwa [World.size_alloc] at this
 have HS := hide (hS.below HB2.out)
 obtain ⟨w2, Hw2⟩ : ∃ w2, Hid ((w.alloc (.cells (DC x) 44)).alloc (.cells (EC en0) 46) = w2) := ⟨_, rfl⟩
 rw [Hw2.out] at HB2 HD HX HS
 clear hS B1
 go_enter Tryz.func42, Tryz.ntmps42
 go_wp2_with fail
 rw [Hw2.out]
 refine (index_any ao n cap L x w.heap.size _ HS.out HD.out).mono ?_
 rintro y w3 ⟨k, rfl, hk, b3⟩
 have HK := hide hk
 have HB3 := hide (HB2.out.trans (b3.mono HB2.out.size))
 have X3 := HX.out.below b3
 have HX3 := hide X3
 have HS3 := hide (HS.out.below b3)
 clear b3 hk X3
 by_cases h0 : k < 0
 ·have HE : Hid (fdE L k = en0) := by show _ = _; unfold fdE; rw [if_pos h0]
  have HF : Hid (fdB k = false) := by show _ = _; unfold fdB; simp; omega
  have hst := run_st28 (e' := en0) HX3.out
  have HX4 := hide (HX3.out.setRow (e' := en0))
  have HB4 : Hid (Below w.heap.size w (w3.setRow (w.heap.size + 1) (EC en0))) := below_setRow HB3.out (by omega)
  go_wp2_with fail
  refine bodyPost_ret (resF Tryz.results42 rfl rfl HX4.out) rfl ⟨k, by rw [HE.out, HF.out]; rfl, HK.out, HB4.out⟩
 ·obtain ⟨i, rfl⟩ : ∃ i : Nat, k = (i : Int) := ⟨k.toNat, by omega⟩
  have hil : i < n := by
   rcases HK.out with ⟨h, _⟩ | ⟨i', h1, h2, _⟩
   ·omega
   ·rw [HL.out] at h1; omega
  obtain ⟨ad, rfl, A0⟩ := HS3.out.at i hil
  have hld := run_ld28 A0
  obtain ⟨e, He⟩ : ∃ e, Hid (L.getD i en0 = e) := ⟨_, rfl⟩
  rw [He.out] at hld
  have HE : Hid (fdE L (i : Int) = e) := by show _ = _; unfold fdE; rw [if_neg h0, Int.toNat_natCast, He.out]
  have HF : Hid (fdB (i : Int) = true) := by show _ = _; unfold fdB; simp
  have hst := run_st28 (e' := e) HX3.out
  have HX4 := hide (HX3.out.setRow (e' := e))
  have HB4 : Hid (Below w.heap.size w (w3.setRow (w.heap.size + 1) (EC e))) := below_setRow HB3.out (by omega)
  clear A0 h0
  go_wp2_with fail
  refine bodyPost_ret (resF Tryz.results42 rfl rfl HX4.out) rfl ⟨(i : Int), by rw [HE.out, HF.out]; rfl, HK.out, HB4.out⟩
end Go.Proofs.YtmbkmpeongodbaaGreat.K

