/- BAq TLv TAw -/
import Derived.Test.YtalpnhfoaohhhaaGreatTk
import Derived.Test.YtalpnhfoaohhhaaGreatTj33
import Derived.Test.YtalpnhfoaohhhaaGreatTj30
import Derived.Deep.CutRange
import Derived.Test.YtalpnhfoaohhhaaGreatTj19
import Derived.Test.YtalpnhfoaohhhaaGreatTj21
set_option maxRecDepth 100000
set_option maxHeartbeats 3200000
namespace Go.Proofs.YtalpnhfoaohhhaaGreat
section
open Go.RowKit Go.Maps Go.Sort
attribute [local go_sem ↓] ldP_eq stP_eq ldRe_eq stRe_eq
attribute [local go_sem] cells_ReV ReC_size zero_ReC
theorem nodup_len {α : Type} [DecidableEq α] : ∀ (l m : List α), l.Nodup -> (∀ x ∈ l, x ∈ m) -> l.length <= m.length
 | [], _, _, _ => Nat.zero_le _
 | x :: l, m, hn, hs => by
  have h1 := List.nodup_cons.1 hn
  have hx := hs x List.mem_cons_self
  have h2 := nodup_len l (m.erase x) h1.2 (fun y hy => (List.mem_erase_of_ne (fun e => h1.1 (by rw [<- e]; exact hy))).2 (hs y (List.mem_cons_of_mem _ hy)))
  rw [List.length_erase_of_mem hx] at h2
  have := List.length_pos_of_mem hx
  simp only [List.length_cons]
  omega
theorem cb_self : ∀ a : List UInt8, Lib.compareBytes a a = 0
 | [] => by simp [Lib.compareBytes]
 | a :: x => by
  have h0 : ¬ a < a := UInt8.lt_irrefl a
  simpa [Lib.compareBytes, h0] using cb_self x
theorem fold_len {R F : List Rc} (h : FoldOf R F) : F.length <= R.length := by
 have h1 := nodup_len (F.map (fun x => x.s.data.toList)) (R.map (fun x => x.s.data.toList)) (by
  refine List.pairwise_map.2 (h.1.imp fun {a b} hab e => ?_)
  have e2 : a.s = b.s := by cases ha : a.s; cases hb : b.s; rw [ha, hb] at e; simpa using e
  rw [e2] at hab
  exact absurd hab (by unfold cmpS; rw [cb_self]; decide)) (fun x hx => by
  obtain ⟨f, hf, rfl⟩ := List.mem_map.1 hx
  obtain ⟨r, hr, e⟩ := (h.2.1 f hf).1
  exact List.mem_map.2 ⟨r, hr, by rw [e]⟩)
 simpa using h1
theorem clone_gives {w w' : World} {L : List K.En} {n : Nat} {ao : Option Addr} {c : Nat} (hn : L.length = n) (hs : ∀ e ∈ L, e.sku.size <= maxLen) (hb : n <= 3518437208883) (O : K.OwnE w.heap.size w.heap.size w w' ao c L) : K.ESrc w' ao n c L /\ ∀ ad, ao = some ad -> w.heap.size <= ad.block := by
 have h := O.src hs (by omega)
 rw [hn] at h
 exact h
theorem apply_any (ao bo : Option Addr) (n cap m cap' : Nat) (L : List K.En) (R : List Rc) (w : World) (hS : K.ESrc w ao n cap L) (hR : RcS w bo m cap' R) (hwt : ∀ s, wt (ofS R s) <= 8796093022207) (hnm : m * (n + 1) <= 8796093022207) :
  Calls Tryz.prog 55 #[.slice ao n cap, .slice bo m cap'] w fun x w' => ApA w w' x L R m := by
 have HS := hide hS
 have HR := hide hR
 have HW := hide hwt
 have HNM := hide hnm
 have HL : Hid (L.length = n /\ n <= 3518437208883) := ⟨hS.1, hS.2.2.2.2⟩
 have hnb := HL.out.2
 have HM : Hid (R.length = m) := hR.len
 clear hS hR hwt hnm
 go_enter Tryz.func55, Tryz.ntmps55
 go_wp2_with fail
 refine (K.lcheck_any ao n cap L _ HS.out).mono ?_
 rintro x w1 ⟨rfl, b1⟩
 have HB1 := hide b1
 have HS1 := hide (HS.out.below b1)
 have HR1 := hide (HR.out.below b1)
 clear b1 HS HR
 rcases K.chk_cases L with hc | hc
 rotate_left
 ·have HE : Hid (ApA w w1 (.returned (.tuple #[.slice none 0 0, .int .i64 1])) L R m) := .inr ⟨fun h => (by rw [hc] at h; cases h.1), _, _, _, rfl, K.ESrc.none _, HB1.out, fun ad h => by cases h⟩
  rw [hc]
  clear hc
  go_wp2_with fail
  go_ret2
  exact HE.out
 ·rw [hc]
  have HC := hide hc
  clear hc
  go_wp2_with fail
  refine (fold_any bo m cap' R _ HR1.out HW.out).mono ?_
  rintro x w2 (⟨hO, ⟨qo, qn, qc⟩, F, rfl, S2, b2, -, hF⟩ | ⟨hO, rfl, b2⟩)
  rotate_left
  ·have HE : Hid (ApA w w2 (.returned (.tuple #[.slice none 0 0, .int .i64 1])) L R m) := .inr ⟨fun h => hO h.2, _, _, _, rfl, K.ESrc.none _, HB1.out.trans (b2.mono HB1.out.size), fun ad h => by cases h⟩
   clear hO b2
   go_wp2_with fail
   go_ret2
   exact HE.out
  ·rw [show HsV ⟨qo, qn, qc⟩ = Value.slice qo qn qc from rfl]
   replace S2 : RcS w2 qo qn qc F := S2
   have HO := hide hO
   have HB2 := hide (HB1.out.trans (b2.mono HB1.out.size))
   have HS2 := hide (HS1.out.below b2)
   have HF := hide hF
   have HFS := hide S2
   have HFl : Hid (F.length = qn) := S2.len
   have hqb := S2.big
   have HFm : Hid (qn <= m) := by show _ <= _; rw [<- HFl.out, <- HM.out]; exact fold_len hF
   clear hO b2 HS1 HB1 HR1 hF S2
   by_cases hq0 : qn = 0
   ·have hqi : ((qn : Int) == 0) = true := by simp [hq0]
    have hF0 : F = [] := List.eq_nil_of_length_eq_zero (HFl.out.trans hq0)
    have HFr : Hid (L.filter (freeB R) = L) := by show _ = _; exact free_nil HC.out (hF0 ▸ HF.out)
    clear hF0
    cases ao with
    | none =>
     have h00 := HS2.out.2.1 rfl
     obtain ⟨rfl, rfl⟩ := h00
     go_wp2_with fail
     refine (K.clone_nil _).mono ?_
     rintro x w3 ⟨rfl, rfl⟩
     have HE : Hid (ApA w w3 (.returned (.tuple #[.slice none 0 0, .int .i64 0])) L R m) := .inl ⟨HC.out, HO.out, none, 0, 0, rfl, by rw [HFr.out]; exact HS2.out, HB2.out, fun ad h => by cases h⟩
     go_wp2_with fail
     go_ret2
     exact HE.out
    | some ad =>
     go_wp2_with fail
     refine (K.clone_any ad n cap L _ HS2.out).mono ?_
     rintro x w3 ⟨a3, c3, rfl, O3⟩
     have h3 := clone_gives HL.out.1 HS2.out.2.2.2.1 HL.out.2 O3
     have HE : Hid (ApA w w3 (.returned (.tuple #[.slice a3 n c3, .int .i64 0])) L R m) := .inl ⟨HC.out, HO.out, a3, n, c3, rfl, by rw [HFr.out]; exact h3.1, HB2.out.trans (O3.below.mono HB2.out.size), fun ad h => Nat.le_trans HB2.out.size (h3.2 ad h)⟩
     clear O3 h3
     go_wp2_with fail
     go_ret2
     exact HE.out
   ·have hqi : ((qn : Int) == 0) = false := by simp [hq0]
    have HSK : Hid (∀ e ∈ L, ¬ e.sku.size = 0) := fun e he => ce_sku (chk_ce HC.out e he)
    go_wp2_with fail
    refine (dotsBy_any ao n cap L _ HS2.out HSK.out).mono ?_
    rintro x w3 ⟨kk, rfl, hM⟩
    obtain ⟨K0, f, M3⟩ := hM
    have HM3 := hide M3
    have HB3 := hide (HB2.out.trans (M3.below.mono HB2.out.size))
    have HS3 := hide (HS2.out.below M3.below)
    have HF3 := hide (HFS.out.below M3.below)
    obtain ⟨b, Hb⟩ : ∃ b, Hid (w2.heap.size = b) := ⟨_, rfl⟩
    rw [Hb.out]
    clear M3 HS2 HFS HB2
    go_wp2_with fail
    go_loopw [10, 35] (fun v i wr => ∃ (k : Nat) (x : Hs), k <= qn /\ v = .slice x.o x.n x.c /\ i = .int .i64 (k : Int) /\ Hid (∃ X : List Pv, OwnP w3.heap.size w3 wr x X /\ (∀ p ∈ X, FarH x p) /\ BX L (F.take k) X /\ x.n = k)) (fun _ i _ => qn - (intOf i).toNat)
    case atStart => exact ⟨0, hs0, Nat.zero_le _, rfl, rfl, ⟨[], OwnP.nil w3, fun p h => (by cases h), BX.nil L, rfl⟩⟩
    case round =>
     obtain ⟨k, x, hk, rfl, rfl, HX⟩ := hrel
     rename World => wr
     by_cases hlt : k < qn
     ·have hlti : (k : Int) < (qn : Int) := by omega
      obtain ⟨X, O, hFar, hBX, hxn⟩ := HX.out
      obtain ⟨ad, hao, A0⟩ := (HF3.out.below O.below).at k hlt
      have hOk := (HF3.out.below O.below).okAt k hlt
      have HT := hide (take_snocF F k (by rw [HFl.out]; exact hlt))
      obtain ⟨r, Hr⟩ : ∃ r, Hid (F.getD k rc0 = r) := ⟨_, rfl⟩
      rw [Hr.out] at A0 hOk HT
      have hsk := hOk.2
      have hld := run_laRe A0
      obtain ⟨g7, hg7⟩ : ∃ g7, wr.heap.size = g7 := ⟨_, rfl⟩
      obtain ⟨w7, hst, X7, B7, S7⟩ := madeRe wr (mkR r) g7 hg7
      have O7 := (O.later B7).later (below_drew1 w7)
      have M7 := ((HM3.out.later O.below).later B7).later (below_drew1 w7)
      have l0 : (Instr.lookup 115 (.map (some b)) (.string r.s) false).run Tryz.prog w7.drew = .ok (.slice (f r.s).o (f r.s).n (f r.s).c) w7.drew := by
       have := M7.look keyS Tryz.underlying9 Tryz.underlying115 (zeroDs _) r.s hsk
       rwa [Hb.out] at this
      have hdl := M7.len r.s
      have hdb := dotsS_len L r.s
      have HD7 : Hid (RSrc w7.drew (f r.s).o (f r.s).n (f r.s).c (dotsS L r.s)) := by
       have h := M7.rows r.s
       have e : (HsV (f r.s)) = .slice (f r.s).o (dotsS L r.s).length (f r.s).c := by show Value.slice _ _ _ = _; rw [hdl]
       rw [e, hdl] at h
       have := (OwnD.src (B0 := w2.heap.size) ⟨h, M7.below, M7.hb.2.2, by omega⟩ (by have := HL.out; omega)).1
       show RSrc _ _ _ _ _
       rw [hdl]
       exact this
      have HSt : Hid (∀ W : World, W.heap[g7]? = w7.heap[g7]? -> W.cell? ⟨g7, 0, none⟩ = some (.string r.s) /\ (ldP (.pointer (some ⟨g7, 1, none⟩))).run Tryz.prog W = .ok (.agg #[.slice r.p.vo r.p.vn r.p.vc, .slice r.p.co r.p.cn r.p.cc]) W) := fun W h => by
       have X : ReBox W g7 (mkR r) := h.trans X7
       exact ⟨X.sk, run_ldP X.past⟩
      have Hg7 : Hid (g7 < w7.heap.size) := by show _ < _; omega
      have Hlt := hide hlt
      have HO7 := hide O7
      have HFa := hide hFar
      have HBX := hide hBX
      have Hxn : Hid (x.n = k /\ k <= 2199023255552) := ⟨hxn, by omega⟩
      have HP7 : Hid (PSrc w7.drew r.p) := ((hOk.1.below B7).below (below_drew1 w7))
      have HGX : Hid (∀ j, (HsV x).ownBlock = some j -> j < g7) := fun j hj => by have := (O.own.lt j hj).2; omega
      subst hao
      clear A0 X7 B7 S7 M7 O7 O hFar hBX hlt hk hOk hdl hdb hxn HX
      go_upto_region 14 with fail
      clear hst hld
      refine wp_region_held_drew (S := fun W => W.cell? ⟨g7, 0, none⟩ = some (.string r.s) /\ (ldP (.pointer (some ⟨g7, 1, none⟩))).run Tryz.prog W = .ok (.agg #[.slice r.p.vo r.p.vn r.p.vc, .slice r.p.co r.p.cn r.p.cc]) W) (by kernel_rfl) (HSt.out _ rfl) (fun hHeld => ?_)
      refine wTk 0 ⟨some 39, .move (.tmp 10), 59, "bars.go:44", #[], none⟩ rfl ?_
      refine wTk 1 ⟨some 40, .move (.tmp 9), 115, "bars.go:44", #[], none⟩ rfl ?_
      refine wTk 2 ⟨some 41, .fieldAddr 62 (.tmp 12) 0, 0, "bars.go:44", #[], none⟩ rfl ?_
      refine wTk 3 ⟨some 42, .load 9 (.tmp 41), 9, "bars.go:44", #[⟨2, .data⟩], none⟩ rfl ?_
      refine wTk 6 ⟨some 45, .fieldAddr 62 (.tmp 12) 1, 0, "bars.go:44", #[], none⟩ rfl ?_
      refine wTk 7 ⟨some 46, .load 26 (.tmp 45), 26, "bars.go:44", #[⟨6, .data⟩], none⟩ rfl ?_
      refine wpAnyH_ready (rs := [4]) (by kernel_rfl) (by simp) (.cons rfl (fun K hK => ?_) .nil)
      go_simp
      refine hK.out _ _ (HSt.out _ rfl) (fun hHeld => ?_)
      clear hK K
      refine wpAnyH_ready (rs := [5]) (by kernel_rfl) (by simp) (.cons rfl (fun K hK => ?_) .nil)
      go_simp
      go_wp2_with fail
      refine (pastOfN_any (f r.s).o (f r.s).n (f r.s).c (dotsS L r.s) _ HD7.out).mono ?_
      rintro e w8 ⟨pd, rfl, Sd, -, b8, Cd⟩
      have HO8 := hide (HO7.out.later b8)
      have HP8 := hide (HP7.out.below b8)
      have z8 : w8.heap[g7]? = w7.heap[g7]? := b8.block g7 Hg7.out
      have HZ8 := hide z8
      have HG8 : Hid (g7 < w8.heap.size) := Nat.lt_of_lt_of_le Hg7.out b8.size
      have HSd := hide Sd
      have HCd := hide Cd
      refine hK.out _ _ (HSt.out _ z8) (fun hHeld => ?_)
      clear hK K
      clear b8 z8 Sd Cd HO7 HP7 l0
      refine wpAnyH_ready (rs := [8]) (by kernel_rfl) (by simp) (.cons rfl (fun K hK => ?_) .nil)
      go_simp
      go_wp2_with fail
      refine (pastMeet_any pd r.p _ HSd.out HP8.out).mono ?_
      rintro e w9 ⟨pm, rfl, Sm, Nm, b9, Cm⟩
      have HO9 := hide (HO8.out.later b9)
      have z9 : w9.heap[g7]? = w7.heap[g7]? := (b9.block g7 HG8.out).trans HZ8.out
      have HZ9 := hide z9
      have HG9 : Hid (g7 < w9.heap.size) := Nat.lt_of_lt_of_le HG8.out b9.size
      have HSm := hide Sm
      have HFm2 : Hid (FarH x pm) := fun j hj => PFar.new Nm (by have := HGX.out j hj; have := HG8.out; omega)
      have HBm : Hid (BX L (F.take (k + 1)) (X ++ [pm])) := by show BX _ _ _; rw [HT.out]; exact HBX.out.snoc HCd.out Cm
      refine hK.out _ _ (HSt.out _ z9) (fun hHeld => ?_)
      clear hK K
      clear b9 z9 Sm Nm Cm HO8 HP8
      obtain ⟨ga, ca, wa, haa, Oa, Fa, ka⟩ := HO9.out.app HFa.out pm HSm.out HFm2.out (by have := Hxn.out; omega)
      have HAA : Hid ((Builtin.append_ #[59, 59] 59 #[.slice x.o x.n x.c, .slice (some ⟨w9.heap.size, 0, none⟩) 1 1]).run Tryz.prog (w9.alloc (.cells #[.slice pm.vo pm.vn pm.vc, .slice pm.co pm.cn pm.cc] 26)) = .ok (.slice (some ⟨ga, 0, none⟩) (x.n + 1) ca) wa) := haa
      have zA : (w9.alloc (.cells #[.slice pm.vo pm.vn pm.vc, .slice pm.co pm.cn pm.cc] 26)).heap[g7]? = w7.heap[g7]? := (Below.heap_alloc w9 _ g7 HG9.out).trans HZ9.out
      have za : wa.heap[g7]? = w7.heap[g7]? := (ka g7 HG9.out (fun e => by have := HGX.out g7 e; omega)).trans HZ9.out
      have HOa : Hid (∃ X : List Pv, OwnP w3.heap.size w3 wa ⟨some ⟨ga, 0, none⟩, x.n + 1, ca⟩ X /\ (∀ p ∈ X, FarH ⟨some ⟨ga, 0, none⟩, x.n + 1, ca⟩ p) /\ BX L (F.take (k + 1)) X /\ x.n + 1 = k + 1) := ⟨_, Oa, Fa, HBm.out, by rw [Hxn.out.1]⟩
      clear haa Oa Fa ka
      refine wpAnyH_ready (rs := [9]) (by kernel_rfl) (by simp) (.cons rfl (fun K hK => ?_) .nil)
      go_simp
      refine hK.out _ _ (HSt.out _ zA) (fun hHeld => ?_)
      clear hK K
      refine wpAnyH_ready (rs := [10]) (by kernel_rfl) (by simp) (.cons rfl (fun K hK => ?_) .nil)
      refine step_appM (by rfl) (.tmp 39) (.tmp 48) (by rfl) (by rfl) (by rfl) HAA.out ?_
      refine hK.out _ _ (HSt.out _ za) (fun hHeld => ?_)
      clear hK K
      refine wTk 11 ⟨some 10, .assign (.tmp 49), 59, "bars.go:44", #[⟨10, .data⟩, ⟨10, .chain⟩, ⟨0, .phase⟩, ⟨1, .phase⟩, ⟨2, .phase⟩, ⟨3, .phase⟩, ⟨4, .phase⟩, ⟨5, .phase⟩, ⟨6, .phase⟩, ⟨7, .phase⟩, ⟨8, .phase⟩, ⟨9, .phase⟩, ⟨10, .phase⟩], none⟩ rfl ?_
      refine wpAnyH_done (by kernel_rfl) ?_ _
      clear hHeld
      clear zA za
      go_wp2_with fail
      go_roundw
      case rel => exact ⟨k + 1, ⟨some ⟨ga, 0, none⟩, x.n + 1, ca⟩, Hlt.out, rfl, by simp, HOa⟩
      case measure => simp [intOf]; have := Hlt.out; omega
     ·have hlti : ¬ (k : Int) < (qn : Int) := by omega
      obtain ⟨X, O, -, hBX, hxn⟩ := HX.out
      have hT : F.take k = F := List.take_of_length_le (by have := HFl.out; omega)
      rw [hT] at hBX
      have HBX := hide hBX
      have HP : Hid (PRow wr x.o x.n X) := O.row
      have HWX : Hid (wt X <= 8796093022207) := by
       show _ <= _
       have h1 := hBX.2
       rw [HFl.out, HL.out.1] at h1
       have h2 := Nat.mul_le_mul_right (n + 1) HFm.out
       have h3 := HNM.out
       omega
      have hxq : x.n <= 8796093022207 := by omega
      have HBr := hide (HB3.out.trans (O.below.mono HB3.out.size))
      have HSr := hide (HS3.out.below O.below)
      clear O hBX hT hxn HX hk hlt
      go_wp2_with fail
      refine (pastJoin_any x.o x.n x.c X _ HP.out HWX.out hxq).mono ?_
      rintro e w8 ⟨pj, rfl, Sj, -, b8, Cj⟩
      have HB8 := hide (HBr.out.trans (b8.mono HBr.out.size))
      have HS8 := hide (HSr.out.below b8)
      have HSj := hide Sj
      have HCj := hide Cj
      clear b8 Sj Cj HBr HSr
      go_wp2_with fail
      refine (outside_any ao n cap L pj _ HS8.out HSj.out).mono ?_
      rintro e w9 (⟨-, -, a9, n9, c9, rfl, S9, b9, N9⟩ | ⟨hno, -⟩)
      rotate_left
      ·exact absurd ⟨HC.out, canon_iff.1 HCj.out.canon⟩ hno
      ·have HE : Hid (ApA w w9 (.returned (.tuple #[.slice a9 n9 c9, .int .i64 0])) L R m) := .inl ⟨HC.out, HO.out, a9, n9, c9, rfl, by rw [<- free_of HC.out HF.out HBX.out HCj.out]; exact S9, HB8.out.trans (b9.mono HB8.out.size), fun ad h => Nat.le_trans HB8.out.size (N9 ad h)⟩
       clear S9 b9 N9
       go_wp2_with fail
       go_ret2
       exact HE.out
end
section
open Go.RowKit
attribute [local go_sem ↓] ldP_eq stP_eq ldFa_eq stFa_eq
attribute [local go_sem] cells_PV PC_size cells_FaV FaC_size
def liveL (f : Fc) : List K.En := (f.es.filter (pkB f.p.P false)).filter (freeB f.rs)
def LvA (w w' : World) (x : Ending) (f : Fc) : Prop := (FormF f /\ K.GivesEE w w' x (liveL f) 0) ∨ (¬ FormF f /\ K.GivesEE w w' x [] 1)
theorem chk_filter {L : List K.En} (h : K.chk L = 0) (p : K.En -> Bool) : K.chk (L.filter p) = 0 :=
 K.chk_asc (List.Pairwise.filter p (K.chk_asc' h)) (fun e he => chk_ce h e (List.mem_filter.1 he).1)
theorem GivesEE.mono0 {w w0 w' : World} {x : Ending} {L : List K.En} {er : Int} (h : K.GivesEE w w' x L er) (hb : Below w0.heap.size w0 w) : K.GivesEE w0 w' x L er := by
 obtain ⟨ao, n, c, h1, h2, h3, h4⟩ := h
 exact ⟨ao, n, c, h1, h2, hb.trans (h3.mono hb.size), fun ad e => Nat.le_trans hb.size (h4 ad e)⟩
theorem tLive_any (f : Fc) (w : World) (hF : FcOk w f) (hwt : ∀ s, wt (ofS f.rs s) <= 8796093022207) (hnm : f.rn * (f.an + 1) <= 8796093022207) :
  Calls Tryz.prog 29 #[FaV (mkF f)] w fun e w' => LvA w w' e f := by
 have HX := hide (FaBox_new w (mkF f))
 have HBK := hide (below_new w (.cells (FaC (mkF f)) 29))
 have HS := hide (hF.below HBK.out)
 have HW := hide (And.intro hwt hnm)
 clear hF hwt hnm
 obtain ⟨wk, hwk⟩ : ∃ wk, w.alloc (.cells (FaC (mkF f)) 29) = wk := ⟨_, rfl⟩
 obtain ⟨G, hG⟩ : ∃ G, w.heap.size = G := ⟨_, rfl⟩
 rw [hwk] at HX HBK HS
 rw [hG] at HX
 obtain ⟨c0, c3⟩ := HX.out.cs
 have lp := run_ldP HX.out.past
 go_enter Tryz.func29, Tryz.ntmps29
 go_wp2_with fail
 clear hwk hG
 refine (outside_any f.ao f.an f.ac f.es f.p _ HS.out.es HS.out.p).mono ?_
 rintro e w1 h1
 rcases h1 with ⟨h1, h2, ao, n, c, rfl, S1, b1, n1⟩ | ⟨h1, ao, n, c, rfl, S1, b1, n1⟩
 rotate_left
 ·have HE : Hid (LvA w w1 (.returned (.tuple #[.slice none 0 0, .int .i64 1])) f) := .inr ⟨fun h => h1 ⟨(chk_okN HS.out.es.1).2 h.1, h.2.1⟩, none, 0, 0, rfl, esrc_nil _, HBK.out.trans (b1.mono HBK.out.size), fun ad e => (by cases e)⟩
  clear h1 S1 b1 n1 c0 c3 lp
  go_wp2_with fail
  go_ret2
  exact HE.out
 have HC : Hid (K.chk f.es = 0 /\ InForm f.p.P) := ⟨h1, h2⟩
 have HB1 := hide (HBK.out.trans (b1.mono HBK.out.size))
 have HX1 := hide (HX.out.below b1)
 have HS1 := hide (HS.out.below b1)
 have HL1 := hide S1
 have hlen : (f.es.filter (pkB f.p.P false)).length = n := S1.1
 have hle : n <= f.an := by rw [<- hlen, <- HS.out.es.1]; exact List.length_filter_le _ _
 have HM : Hid (f.rn * (n + 1) <= 8796093022207) := Nat.le_trans (Nat.mul_le_mul_left _ (by omega)) HW.out.2
 clear h1 h2 S1 b1 n1 c0 c3 lp hlen hle
 obtain ⟨-, c3⟩ := HX1.out.cs
 go_wp2_with fail
 clear c3
 refine (apply_any ao f.ro n c f.rn f.rc _ f.rs _ HL1.out HS1.out.rs HW.out.1 HM.out).mono ?_
 rintro e w2 h2
 rcases h2 with ⟨-, h2, h3⟩ | ⟨h2, h3⟩
 ·have HE : Hid (LvA w w2 e f) := .inl ⟨⟨(chk_okN HS.out.es.1).1 HC.out.1, HC.out.2, h2⟩, GivesEE.mono0 h3 HB1.out⟩
  obtain ⟨a2, n2, c2, rfl, -, -, -⟩ := h3
  clear h2
  go_wp2_with fail
  go_ret2
  exact HE.out
 ·have HE : Hid (LvA w w2 e f) := .inr ⟨fun h => h2 ⟨chk_filter HC.out.1 _, h.2.2⟩, GivesEE.mono0 h3 HB1.out⟩
  obtain ⟨a2, n2, c2, rfl, -, -, -⟩ := h3
  clear h2
  go_wp2_with fail
  go_ret2
  exact HE.out
end
section
open Go.RowKit
def FcS (w w' : World) (e : Ending) (D : Fc -> Prop) : Prop := ∃ f, e = .returned (FaV (mkF f)) /\ FcOk w' f /\ FcR f /\ FcN w.heap.size f /\ Below w.heap.size w w' /\ D f
theorem give_fs {w W : World} {g : Nat} {m0 : FacV} {f : Fc} (D : Fc -> Prop) (hX : FaBox W g m0) (hF : FcOk W f) (hr : FcR f) (hn : FcN (g + 1) f) (hb : Below w.heap.size w W) (hg : w.heap.size <= g) (hD : D f) :
  FaBox (W.setRow g (FaC (mkF f))) g (mkF f) /\ FcS w (W.setRow g (FaC (mkF f))) (.returned (FaV (mkF f))) D :=
 ⟨hX.setRow, f, rfl, hF.off2 hn (fun k hk => setRow_other _ _ _ _ (by omega)), hr, hn.mono (by omega), below_setRow hb hg, hD⟩
def aw1 : K.En := ⟨0, 1, ⟨#[65]⟩, 5⟩
def aw2 : K.En := ⟨0, 2, ⟨#[66]⟩, 2⟩
def aw3 : K.En := ⟨1, 1, ⟨#[65]⟩, 1⟩
def awP : Pst := ⟨[1], []⟩
def awQ : Pst := ⟨[0, 2], []⟩
theorem resE1 {fn : Func} {p : Tmp} {w : World} {g : Nat} {T : TypeId} {e : K.En} (h : fn.results = #[.cell p 36]) {tmps : Array Value} (hp : tmps.getD p undef = .pointer (some ⟨g, 0, none⟩)) (A : K.Box w g T e) :
  (results fn tmps).run Tryz.prog w = .ok (K.EV e) w := by
 have hl := K.run_lv28 A.at
 simp only [results, h]
 rw [Array.getD_eq_getD_getElem?] at hp
 simp [hp, asAddr, hl]
def bsE3 (a : Array (Nat × Value)) : Sem Value := Instr.buildSlice 22 3 a
theorem bsE3_eq (a : Array (Nat × Value)) : Instr.buildSlice 22 3 a = bsE3 a := rfl
def awC : Array Value := #[.int .i64 0, .int .i64 1, .string ⟨#[65]⟩, .int .i64 5, .int .i64 0, .int .i64 2, .string ⟨#[66]⟩, .int .i64 2, .int .i64 1, .int .i64 1, .string ⟨#[65]⟩, .int .i64 1]
theorem run_bsE3 (w : World) : (bsE3 #[(0, K.EV aw1), (1, K.EV aw2), (2, K.EV aw3)]).run Tryz.prog w = .ok (.slice (some ⟨w.heap.size, 0, none⟩) 3 3) (w.alloc (.cells awC 36)) := by kernel_rfl
theorem run_bldF01 (a v : Option Addr) (n c m d : Nat) (w : World) : (bldF #[(0, .slice a n c), (1, .agg #[.slice v m d, .slice none 0 0])]).run Tryz.prog w = .ok (.agg #[.slice a n c, .slice v m d, .slice none 0 0, .slice none 0 0]) w := by kernel_rfl
theorem run_bldF2 (a : Option Addr) (n c : Nat) (w : World) : (bldF #[(2, .slice a n c)]).run Tryz.prog w = .ok (.agg #[.slice none 0 0, .slice none 0 0, .slice none 0 0, .slice a n c]) w := by kernel_rfl
def bsR1 (a : Array (Nat × Value)) : Sem Value := Instr.buildSlice 27 1 a
theorem bsR1_eq (a : Array (Nat × Value)) : Instr.buildSlice 27 1 a = bsR1 a := rfl
theorem run_bsR1 (s : ByteArray) (a : Option Addr) (n c : Nat) (w : World) : (bsR1 #[(0, .agg #[.string s, .slice a n c, .slice none 0 0])]).run Tryz.prog w = .ok (.slice (some ⟨w.heap.size, 0, none⟩) 1 1) (w.alloc (.cells #[.string s, .slice a n c, .slice none 0 0] 62)) := by kernel_rfl
theorem awC_src (w : World) (g : Nat) (hg : w.heap.size = g) : K.ESrc (w.alloc (.cells awC 36)) (some ⟨g, 0, none⟩) 3 3 [aw1, aw2, aw3] := by
 subst hg
 refine ⟨rfl, (fun h => by cases h), fun ad h t ht => ?_, ?_, (show (3 : Nat) <= 3518437208883 by decide)⟩
 ·obtain rfl := Option.some.inj h
  have h1 := heap_alloc_new w (.cells awC 36)
  have ht2 : t < 3 := ht
  generalize w.alloc (.cells awC 36) = W at h1 ⊢
  generalize w.heap.size = g at h1 ⊢
  clear h ht
  obtain rfl | rfl | rfl : t = 0 ∨ t = 1 ∨ t = 2 := by omega
  ·refine ⟨?_, ?_, ?_, ?_⟩ <;> simp [Addr.add, World.cell?, h1, awC, aw1]
  ·refine ⟨?_, ?_, ?_, ?_⟩ <;> simp [Addr.add, World.cell?, h1, awC, aw2]
  ·refine ⟨?_, ?_, ?_, ?_⟩ <;> simp [Addr.add, World.cell?, h1, awC, aw3]
 ·intro e he
  rcases List.mem_cons.1 he with rfl | he
  ·exact (show (1 : Nat) <= maxLen by decide)
  ·rcases List.mem_cons.1 he with rfl | he
   ·exact (show (1 : Nat) <= maxLen by decide)
   ·obtain rfl := List.mem_singleton.1 he
    exact (show (1 : Nat) <= maxLen by decide)
attribute [local go_sem ↓] ldP_eq stP_eq ldFa_eq stFa_eq bldF_eq bsE3_eq bsR1_eq bldE_eq bldP_eq bldR_eq bldD_eq K.ld28_eq K.st28_eq
attribute [local go_sem] cells_PV PC_size cells_FaV FaC_size zero_FaZ run_bldF01 run_bldF2 run_bsE3 run_bsR1 run_bldE run_bldD run_bldP1 run_bldR2 K.cells_EV K.EC_size K.zero_EC
theorem entryL_any (r n q : Int) (s : ByteArray) (w : World) : Calls Tryz.prog 11 #[.int .i64 r, .int .i64 n, .string s, .int .i64 q] w fun e w' => e = .returned (K.EV ⟨r, n, s, q⟩) /\ Below w.heap.size w w' := by
 obtain ⟨g, hg⟩ : ∃ g, w.heap.size = g := ⟨_, rfl⟩
 obtain ⟨w1, hst, X1, B1, -⟩ := K.made w ⟨r, n, s, q⟩ g hg
 replace hst : (K.st28 (.pointer (some ⟨g, 0, none⟩)) (.agg #[.int .i64 r, .int .i64 n, .string s, .int .i64 q])).run Tryz.prog (w.alloc (.cells (K.EC K.en0) 36)) = .ok () w1 := hst
 have HX := hide X1
 have HB := hide B1
 clear X1 B1
 go_enter Tryz.func11, Tryz.ntmps11
 go_wp2_with fail
 clear hst
 refine bodyPost_ret (resE1 rfl rfl HX.out) rfl ?_
 exact ⟨rfl, HB.out⟩
def SomeD (f : Fc) : Prop := f.es = [aw1, aw2, aw3] /\ f.an = 3 /\ f.p.P = awP /\ f.rs = [] /\ f.rn = 0
theorem someL_any (w : World) : Calls Tryz.prog 18 #[] w fun e w' => FcS w w' e SomeD := by
 have b0 := below_new w (.cells (FaC (mkF fz0)) 29)
 have X0 := FaBox_new w (mkF fz0)
 obtain ⟨w0, hw0⟩ : ∃ w0, w.alloc (.cells (FaC (mkF fz0)) 29) = w0 := ⟨_, rfl⟩
 obtain ⟨G, hG⟩ : ∃ G, w.heap.size = G := ⟨_, rfl⟩
 rw [hw0] at b0 X0
 rw [hG] at X0
 have HX := hide X0
 have HB := hide b0
 have HGs : Hid (w.heap.size = G) := hG
 clear b0 X0
 go_enter Tryz.func18, Tryz.ntmps18
 go_wp2_with fail
 clear hw0 hG
 refine (entryL_any 0 1 5 ⟨#[65]⟩ _).mono ?_
 rintro e w1 ⟨rfl, b1⟩
 have HB1 := hide (HB.out.trans (b1.mono HB.out.size))
 have HX1 := hide (HX.out.below b1)
 clear b1
 go_wp2_with fail
 refine (entryL_any 0 2 2 ⟨#[66]⟩ _).mono ?_
 rintro e w2 ⟨rfl, b2⟩
 have HB2 := hide (HB1.out.trans (b2.mono HB1.out.size))
 have HX2 := hide (HX1.out.below b2)
 clear b2
 go_wp2_with fail
 refine (entryL_any 1 1 1 ⟨#[65]⟩ _).mono ?_
 rintro e w3 ⟨rfl, b3⟩
 have HB3 := hide (HB2.out.trans (b3.mono HB2.out.size))
 have HX3 := hide (HX2.out.below b3)
 clear b3
 have lb : (bsE3 #[(0, K.EV ⟨0, 1, ⟨#[65]⟩, 5⟩), (1, K.EV ⟨0, 2, ⟨#[66]⟩, 2⟩), (2, K.EV ⟨1, 1, ⟨#[65]⟩, 1⟩)]).run Tryz.prog w3 = .ok (.slice (some ⟨w3.heap.size, 0, none⟩) 3 3) (w3.alloc (.cells awC 36)) := run_bsE3 w3
 obtain ⟨g4, hg4⟩ : ∃ g, w3.heap.size = g := ⟨_, rfl⟩
 have S4 := awC_src w3 g4 hg4
 have b4 := below_new w3 (.cells awC 36)
 have z4 : (w3.alloc (.cells awC 36)).heap.size = g4 + 1 := by simp [hg4]
 obtain ⟨w4, hw4⟩ : ∃ w4, w3.alloc (.cells awC 36) = w4 := ⟨_, rfl⟩
 rw [hw4] at lb S4 b4 z4
 rw [hg4] at lb
 have V5 := vsrc_lit w4 3 #[.int .i64 1] [1] rfl (g4 + 1) 1 z4 rfl
 have b5 := below_new w4 (.cells #[.int .i64 1] 3)
 obtain ⟨w5, hw5⟩ : ∃ w5, w4.alloc (.cells #[.int .i64 1] 3) = w5 := ⟨_, rfl⟩
 rw [hw5] at V5 b5
 have HX5 := hide ((HX3.out.below b4).below b5)
 have HB5 := hide (HB3.out.trans ((b4.trans (b5.mono b4.size)).mono HB3.out.size))
 have hgg : G + 1 <= g4 := by have := HX3.out.lt; omega
 have HF5 : Hid (FcOk w5 ⟨some ⟨g4, 0, none⟩, 3, 3, [aw1, aw2, aw3], ⟨some ⟨g4 + 1, 0, none⟩, 1, 1, none, 0, 0, awP⟩, none, 0, 0, []⟩) := ⟨S4.below b5, ⟨V5, SSrc.empty _, (show (1 : Nat) <= 17592186044415 by decide)⟩, RcS.empty _⟩
 have HN5 : Hid (FcN (G + 1) ⟨some ⟨g4, 0, none⟩, 3, 3, [aw1, aw2, aw3], ⟨some ⟨g4 + 1, 0, none⟩, 1, 1, none, 0, 0, awP⟩, none, 0, 0, []⟩) := ⟨fun ad e => by cases e; exact hgg, ⟨fun ad e => by cases e; exact Nat.le_succ_of_le hgg, fun ad e => (by cases e)⟩, fun ad e => (by cases e), fun c hc => (by cases hc)⟩
 have HE := hide (give_fs (w := w) SomeD HX5.out HF5.out ⟨Nat.le_refl _, fun _ => rfl⟩ HN5.out HB5.out (by rw [HGs.out]; exact Nat.le_refl _) ⟨rfl, rfl, rfl, rfl, rfl⟩)
 have stz := run_stFa (m' := mkF ⟨some ⟨g4, 0, none⟩, 3, 3, [aw1, aw2, aw3], ⟨some ⟨g4 + 1, 0, none⟩, 1, 1, none, 0, 0, awP⟩, none, 0, 0, []⟩) HX5.out
 replace stz : (stFa (.pointer (some ⟨G, 0, none⟩)) (.agg #[.slice (some ⟨g4, 0, none⟩) 3 3, .slice (some ⟨g4 + 1, 0, none⟩) 1 1, .slice none 0 0, .slice none 0 0])).run Tryz.prog w5 = .ok () (w5.setRow G (FaC (mkF ⟨some ⟨g4, 0, none⟩, 3, 3, [aw1, aw2, aw3], ⟨some ⟨g4 + 1, 0, none⟩, 1, 1, none, 0, 0, awP⟩, none, 0, 0, []⟩))) := stz
 clear S4 b4 V5 b5 hgg
 go_wp2_with fail
 refine bodyPost_ret (res1Fa rfl rfl HE.out.1) rfl ?_
 exact HE.out.2
def BarD (f : Fc) : Prop := f.es = [] /\ f.an = 0 /\ f.p.P = pv0.P /\ (∃ r, f.rs = [r] /\ r.s = ⟨#[65]⟩ /\ r.p.P = awQ) /\ f.rn = 1
theorem barL_any (w : World) : Calls Tryz.prog 19 #[] w fun e w' => FcS w w' e BarD := by
 have b0 := below_new w (.cells (FaC (mkF fz0)) 29)
 have X0 := FaBox_new w (mkF fz0)
 have z0 : (w.alloc (.cells (FaC (mkF fz0)) 29)).heap.size = w.heap.size + 1 := by simp
 obtain ⟨w3, hw3⟩ : ∃ w0, w.alloc (.cells (FaC (mkF fz0)) 29) = w0 := ⟨_, rfl⟩
 obtain ⟨G, hG⟩ : ∃ G, w.heap.size = G := ⟨_, rfl⟩
 rw [hw3] at b0 X0 z0
 rw [hG] at X0 z0
 have HGs : Hid (w.heap.size = G) := hG
 have V4 := vsrc_lit w3 3 #[.int .i64 0, .int .i64 2] [0, 2] rfl (G + 1) 2 z0 rfl
 have b4 := below_new w3 (.cells #[.int .i64 0, .int .i64 2] 3)
 have z4 : (w3.alloc (.cells #[.int .i64 0, .int .i64 2] 3)).heap.size = G + 2 := by simp [z0]
 obtain ⟨w4, hw4⟩ : ∃ w4, w3.alloc (.cells #[.int .i64 0, .int .i64 2] 3) = w4 := ⟨_, rfl⟩
 rw [hw4] at V4 b4 z4
 have R5 := rcs_lit w4 62 #[.string ⟨#[65]⟩, .slice (some ⟨G + 1, 0, none⟩) 2 2, .slice none 0 0] [⟨⟨#[65]⟩, ⟨some ⟨G + 1, 0, none⟩, 2, 2, none, 0, 0, awQ⟩⟩] rfl (G + 2) 1 z4 rfl (by decide) (fun r hr => by
  obtain rfl := List.mem_singleton.1 hr
  exact ⟨⟨V4, SSrc.empty _, (show (2 : Nat) <= 17592186044415 by decide)⟩, (show (1 : Nat) <= maxLen by decide)⟩)
 have b5 := below_new w4 (.cells #[.string ⟨#[65]⟩, .slice (some ⟨G + 1, 0, none⟩) 2 2, .slice none 0 0] 62)
 have lb := run_bsR1 ⟨#[65]⟩ (some ⟨G + 1, 0, none⟩) 2 2 w4
 rw [z4] at lb
 obtain ⟨w5, hw5⟩ : ∃ w5, w4.alloc (.cells #[.string ⟨#[65]⟩, .slice (some ⟨G + 1, 0, none⟩) 2 2, .slice none 0 0] 62) = w5 := ⟨_, rfl⟩
 rw [hw5] at R5 b5 lb
 have HX5 := hide ((X0.below b4).below b5)
 have HB5 := hide (b0.trans ((b4.trans (b5.mono b4.size)).mono b0.size))
 have HF5 : Hid (FcOk w5 ⟨none, 0, 0, [], pv0, some ⟨G + 2, 0, none⟩, 1, 1, [⟨⟨#[65]⟩, ⟨some ⟨G + 1, 0, none⟩, 2, 2, none, 0, 0, awQ⟩⟩]⟩) := ⟨esrc_nil _, PSrc.zero _, R5⟩
 have HN5 : Hid (FcN (G + 1) ⟨none, 0, 0, [], pv0, some ⟨G + 2, 0, none⟩, 1, 1, [⟨⟨#[65]⟩, ⟨some ⟨G + 1, 0, none⟩, 2, 2, none, 0, 0, awQ⟩⟩]⟩) := ⟨fun ad e => (by cases e), ⟨fun ad e => (by cases e), fun ad e => (by cases e)⟩, fun ad e => (by cases e; exact Nat.le_succ _), fun c hc => by
  obtain rfl := List.mem_singleton.1 hc
  exact ⟨fun ad e => (by cases e; exact Nat.le_refl _), fun ad e => (by cases e)⟩⟩
 have HE := hide (give_fs (w := w) BarD HX5.out HF5.out ⟨Nat.le_refl _, fun e => (by cases e)⟩ HN5.out HB5.out (by rw [HGs.out]; exact Nat.le_refl _) ⟨rfl, rfl, rfl, ⟨_, rfl, rfl, rfl⟩, rfl⟩)
 have stz := run_stFa (m' := mkF ⟨none, 0, 0, [], pv0, some ⟨G + 2, 0, none⟩, 1, 1, [⟨⟨#[65]⟩, ⟨some ⟨G + 1, 0, none⟩, 2, 2, none, 0, 0, awQ⟩⟩]⟩) HX5.out
 replace stz : (stFa (.pointer (some ⟨G, 0, none⟩)) (.agg #[.slice none 0 0, .slice none 0 0, .slice none 0 0, .slice (some ⟨G + 2, 0, none⟩) 1 1])).run Tryz.prog w5 = .ok () (w5.setRow G (FaC (mkF ⟨none, 0, 0, [], pv0, some ⟨G + 2, 0, none⟩, 1, 1, [⟨⟨#[65]⟩, ⟨some ⟨G + 1, 0, none⟩, 2, 2, none, 0, 0, awQ⟩⟩]⟩))) := stz
 clear b0 X0 V4 b4 R5 b5
 go_enter Tryz.func19, Tryz.ntmps19
 go_wp2_with fail
 refine bodyPost_ret (res1Fa rfl rfl HE.out.1) rfl ?_
 exact HE.out.2
/-! ### what the join is -/
theorem awP_form : InForm awP := ⟨by decide, trivial⟩
theorem awQ_form : InForm awQ := ⟨by decide, trivial⟩
theorem z_form : InForm pv0.P := ⟨by decide, trivial⟩
theorem z_mem (r : Nat) (hr : r < 16) (n : Int) : ¬ mem (runsAt pv0.P r) n := fun h => by
 rw [mem_runs pv0.P r hr] at h
 obtain ⟨h1, -, h2 | ⟨c, hc, -⟩⟩ := h
 ·have : (pv0.P.vec.getD r 0 : Int) = 0 := by simp [pv0]
  omega
 ·cases hc
theorem awQ_full : ¬ EmptyP awQ := fun h => h 1 (by decide) 1 ((mem_runs awQ 1 (by decide) 1).2 ⟨by decide, by decide, .inl (by decide)⟩)
theorem awR_ok {r : Rc} (hs : r.s = ⟨#[65]⟩) (hp : r.p.P = awQ) : RecOk r := ⟨by rw [hs]; decide, by rw [hp]; exact ⟨awQ_form, awQ_full⟩⟩
theorem some_form {f : Fc} (h : SomeD f) : FormF f := ⟨by rw [h.1, h.2.1]; decide, by rw [h.2.2.1]; exact awP_form, by rw [h.2.2.2.1, h.2.2.2.2]; exact okR_zero _⟩
theorem bar_form {f : Fc} (h : BarD f) : FormF f := by
 obtain ⟨h1, h2, h3, ⟨r, h4, h5, h6⟩, h7⟩ := h
 refine ⟨by rw [h1, h2]; decide, by rw [h3]; exact z_form, ?_⟩
 rw [h4, h7]
 intro j hj
 obtain rfl : j = 0 := by omega
 exact ⟨awR_ok h5 h6, fun h => absurd h (by decide)⟩
structure AwJ (h : Fc) : Prop where
 es : h.es = [aw1, aw2, aw3]
 p : h.p.P = awP
 rs : ∃ r, h.rs = [r] /\ r.s = ⟨#[65]⟩ /\ r.p.P = awQ
 form : FormF h
theorem aw_join {f g h : Fc} {er : Int} {w : World} (hh : FcOk w h) (hf : SomeD f) (hg : BarD g) (J : JnOf 0 f g h er) : er = 0 /\ AwJ h := by
 rcases J with ⟨h1, -⟩ | ⟨-, -, R, e, u, J⟩
 ·exact absurd ⟨some_form hf, bar_form hg⟩ h1
 have hA : K.Asc [aw1, aw2, aw3] := K.chk_asc' (by decide)
 have hu : e = 0 /\ R = [aw1, aw2, aw3] := by
  rw [hf.1, hg.1] at u
  exact K.union_of (R := [aw1, aw2, aw3]) hA List.Pairwise.nil (chk_ce (by decide)) hA (fun x => by simp) u
 obtain ⟨rfl, rfl⟩ := hu
 rcases J with ⟨h1, -⟩ | ⟨-, rfl, h1, h2, h3, -⟩
 ·exact absurd rfl h1
 obtain ⟨g1, g2, g3, ⟨r, g4, g5, g6⟩, g7⟩ := hg
 have hr := awR_ok g5 g6
 have e3 : UnOf [] [r] [r] := ⟨⟨srt_small (show 1 < 2 by decide), fun x => by simp [plR]⟩, fun x hx => by obtain rfl := List.mem_singleton.1 hx; exact hr⟩
 rw [hf.2.2.2.1, g4] at h3
 have e4 := h3.one e3
 have hP : h.p.P = awP := by
  have e5 : CanonOf (runsAt awP) awP := canon_iff.2 awP_form
  refine h2.unique e5 fun k hk n => ?_
  show mem (runsAt f.p.P k ++ (runsAt g.p.P k ++ [])) n ↔ _
  rw [hf.2.2.1, g3, List.append_nil, mem_append]
  exact ⟨fun q => q.elim id (fun q => absurd q (z_mem k hk n)), .inl⟩
 obtain ⟨q, hq⟩ : ∃ q, h.rs = [q] := by
  have hl : (plR h.rs).length = 1 := by rw [e4]; rfl
  rw [plR_len] at hl
  match hm : h.rs, hl with
  | [q], _ => exact ⟨q, rfl⟩
 rw [hq] at e4
 have e6 : rck q = rck r := by simpa [plR, rck] using e4
 have e7 : q.s = r.s := congrArg Prod.fst e6
 have e8 : q.p.P = r.p.P := congrArg Prod.snd e6
 refine ⟨rfl, h1, hP, ⟨q, hq, by rw [e7]; exact g5, by rw [e8]; exact g6⟩, ?_, by rw [hP]; exact awP_form, ?_⟩
 ·rw [<- hh.es.1, h1]; decide
 ·have := h3.ok
  rwa [hh.rs.len] at this
theorem aw_live {h : Fc} (J : AwJ h) : liveL h = [aw2] := by
 obtain ⟨r, h1, h2, h3⟩ := J.rs
 obtain ⟨s, p⟩ := r
 have h2' : s = ⟨#[65]⟩ := h2
 have h3' : p.P = awQ := h3
 subst h2'
 unfold liveL
 rw [J.es, J.p, h1]
 have e1 : [aw1, aw2, aw3].filter (pkB awP false) = [aw2, aw3] := by decide
 rw [e1]
 have f2 : covB ⟨⟨#[65]⟩, p⟩ aw2 = false := by
  show ((decide ((⟨#[65]⟩ : ByteArray).size = 0) || ((⟨#[65]⟩ : ByteArray).toList == aw2.sku.toList)) && inB p.P aw2) = false
  rw [h3']; decide +kernel
 have f3 : covB ⟨⟨#[65]⟩, p⟩ aw3 = true := by
  show ((decide ((⟨#[65]⟩ : ByteArray).size = 0) || ((⟨#[65]⟩ : ByteArray).toList == aw3.sku.toList)) && inB p.P aw3) = true
  rw [h3']; decide +kernel
 simp [freeB, f2, f3]
theorem aw_wt {h : Fc} {w : World} (hh : FcOk w h) (J : AwJ h) (s : ByteArray) : wt (ofS h.rs s) <= 8796093022207 := by
 obtain ⟨r, h1, -, -⟩ := J.rs
 have hr := hh.rs.ok r (by rw [h1]; exact List.mem_singleton.2 rfl)
 have h4 := hr.1.cloud.big
 have h5 := hr.1.cloud.len
 rw [h1]
 unfold ofS
 by_cases e : r.s = s
 ·rw [List.filter_cons_of_pos (by simpa using e)]
  show 1 + r.p.P.cloud.length + 0 <= _
  omega
 ·rw [List.filter_cons_of_neg (by simpa using e)]
  exact Nat.zero_le _
theorem awake_any (w : World) : Calls Tryz.prog 9 #[] w fun e w' => e = .returned (.bool true) /\ Below w.heap.size w w' := by
 go_enter Tryz.func9, Tryz.ntmps9
 go_wp2_with fail
 refine (someL_any w).mono ?_
 rintro e w1 ⟨f, rfl, F1, R1, -, b1, D1⟩
 have HF1 := hide F1
 have HR1 := hide R1
 have HD1 := hide D1
 have HB1 := hide b1
 clear F1 R1 D1 b1
 go_wp2_with fail
 refine (barL_any _).mono ?_
 rintro e w2 ⟨g, rfl, F2, R2, -, b2, D2⟩
 have HF2 : Hid (FcOk w2 f /\ FcOk w2 g) := ⟨HF1.out.below b2, F2⟩
 have HR2 := hide R2
 have HD2 := hide D2
 have HB2 := hide (HB1.out.trans (b2.mono HB1.out.size))
 clear F2 R2 D2 b2
 go_wp2_with fail
 refine (tJoin_any f g _ HF2.out.1 HF2.out.2 HR1.out HR2.out (by rw [HD1.out.2.2.2.2, HD2.out.2.2.2.2]; decide)).mono ?_
 rintro e w3 ⟨h, er, rfl, F3, R3, N3, b3, J3⟩
 obtain ⟨rfl, AJ⟩ := aw_join F3 HD1.out HD2.out J3
 have HB3 := hide (HB2.out.trans (b3.mono HB2.out.size))
 obtain ⟨g4, hg4⟩ : ∃ g4, w3.heap.size = g4 := ⟨_, rfl⟩
 obtain ⟨w4, hst, X4, B4, -⟩ := madeFa w3 (mkF h) g4 hg4
 have HX4 := hide X4
 have HF4 := hide (F3.below B4)
 have HAJ := hide AJ
 have HB4 := hide (HB3.out.trans (B4.mono HB3.out.size))
 have han : h.an = 3 := by rw [<- F3.es.1, AJ.es]; rfl
 have hrn : h.rn = 1 := by obtain ⟨r, h1, -⟩ := AJ.rs; rw [<- F3.rs.len, h1]; rfl
 obtain ⟨c0, c3⟩ := HX4.out.cs
 rw [han] at c0
 rw [hrn] at c3
 have HM : Hid (h.rn * (h.an + 1) <= 8796093022207) := by show h.rn * _ <= _; rw [han, hrn]; decide
 have lh := run_ldFa HX4.out
 replace hst : (stFa (.pointer (some ⟨g4, 0, none⟩)) (FaV (mkF h))).run Tryz.prog (w3.alloc (.cells (FaC (mkF fz0)) 29)) = .ok () w4 := hst
 clear F3 R3 N3 b3 J3 AJ X4 B4 han hrn
 go_wp2_with fail
 clear hst hg4 c0 c3 lh
 refine (tLive_any h _ HF4.out (aw_wt HF4.out HAJ.out) HM.out).mono ?_
 rintro e w5 h5
 rcases h5 with ⟨-, ao, n, c, rfl, S5, b5, -⟩ | ⟨hno, -⟩
 rotate_left
 ·exact absurd HAJ.out.form hno
 rw [aw_live HAJ.out] at S5
 obtain rfl : n = 1 := S5.1.symm
 have HS5 := hide S5
 have HB5 := hide (HB4.out.trans (b5.mono HB4.out.size))
 obtain ⟨ad, hao, A0⟩ := S5.at 0 (by decide)
 subst hao
 rw [Nat.zero_mul, K.add_zero] at A0
 replace A0 : K.EnAt w5 ad aw2 := A0
 obtain ⟨b6, o6, rfl⟩ : ∃ b o, ad = ⟨b, o, none⟩ := by
  have hsp := World.cell?_spot A0.c0
  obtain ⟨b, o, sp⟩ := ad
  have hsp2 : sp = none := hsp
  subst hsp2
  exact ⟨b, o, rfl⟩
 have HA0 := hide A0
 clear S5 b5 A0
 go_upto_region 5 with fail
 refine wp_region_held_drew (S := fun v => (K.ld28 (.pointer (some ⟨b6, o6, none⟩))).run Tryz.prog v = .ok (K.EV aw2) v) (by kernel_rfl) (K.run_ld28 (HA0.out.on (below_drew1 w5))) (fun hHeld => ?_)
 refine wTk 0 ⟨some 29, .move (.tmp 2), 38, "law.go:34", #[], none⟩ rfl ?_
 refine wTk 1 ⟨some 30, .binOp .eql 38 (.tmp 29) (.const (.int .i64 0)) 38, 4, "law.go:34", #[⟨0, .data⟩], none⟩ rfl ?_
 refine wTk 2 ⟨some 31, .move (.tmp 30), 4, "law.go:34", #[⟨1, .data⟩], none⟩ rfl ?_
 refine wTk 3 ⟨some 32, .move (.tmp 3), 22, "law.go:34", #[⟨2, .guard⟩], some (2, true)⟩ rfl ?_
 refine wTk 4 ⟨some 33, .call ⟨.builtin .len, #[.tmp 32], #[22]⟩, 3, "law.go:34", #[⟨3, .data⟩, ⟨2, .guard⟩], some (2, true)⟩ rfl ?_
 refine wTk 5 ⟨some 34, .binOp .eql 3 (.tmp 33) (.const (.int .i64 1)) 3, 4, "law.go:34", #[⟨4, .data⟩, ⟨2, .guard⟩], some (2, true)⟩ rfl ?_
 refine wTk 6 ⟨some 35, .pick (.tmp 31) (.tmp 34) (.const (.bool false)), 4, "law.go:34", #[⟨2, .data⟩, ⟨5, .data⟩], none⟩ rfl ?_
 refine wTk 7 ⟨some 36, .move (.tmp 35), 4, "law.go:34", #[⟨6, .data⟩, ⟨2, .chain⟩], none⟩ rfl ?_
 refine wTk 8 ⟨some 37, .move (.tmp 3), 22, "law.go:34", #[⟨7, .guard⟩], some (7, true)⟩ rfl ?_
 refine wTk 9 ⟨some 38, .indexAddr 22 (.tmp 37) (.const (.int .i64 0)), 0, "law.go:34", #[⟨8, .data⟩, ⟨7, .guard⟩], some (7, true)⟩ rfl ?_
 refine wTk 10 ⟨some 39, .load 36 (.tmp 38), 36, "law.go:34", #[⟨9, .data⟩, ⟨7, .guard⟩], some (7, true)⟩ rfl ?_
 refine wpAnyH_ready (rs := [11]) (by kernel_rfl) (by simp) (.cons rfl (fun K hK => ?_) .nil)
 go_simp
 go_wp2_with fail
 refine (entryL_any 0 2 2 ⟨#[66]⟩ _).mono ?_
 rintro e w7 ⟨rfl, b7⟩
 have hB7 : Below w5.heap.size w5 w7 := (below_drew1 w5).trans b7
 have HB7 := hide (HB5.out.trans (hB7.mono HB5.out.size))
 refine hK.out _ _ (Go.Proofs.YtalpnhfoaohhhaaGreat.K.run_ld28 (HA0.out.on hB7)) (fun hHeld => ?_)
 clear hK K b7 hB7
 have leq : ∀ W : World, (Op.equalIn 10000 36 (K.EV aw2) (K.EV ⟨0, 2, ⟨#[66]⟩, 2⟩)).run Tryz.prog W = .ok true W := fun W => (Go.Proofs.YtalpnhfoaohhhaaGreat.K.run_eq28 aw2 ⟨0, 2, ⟨#[66]⟩, 2⟩ W).trans (congrArg (fun b => Result.ok b W) (Go.Proofs.YtalpnhfoaohhhaaGreat.K.eqE_self aw2))
 refine wTk 12 ⟨some 41, .binOp .eql 36 (.tmp 39) (.tmp 40) 36, 4, "law.go:34", #[⟨10, .data⟩, ⟨11, .data⟩, ⟨7, .guard⟩], some (7, true)⟩ rfl ?_
 refine wTk 13 ⟨some 42, .pick (.tmp 36) (.tmp 41) (.const (.bool false)), 4, "law.go:34", #[⟨7, .data⟩, ⟨12, .data⟩], none⟩ rfl ?_
 refine wTk 14 ⟨some 0, .assign (.tmp 42), 4, "law.go:34", #[⟨13, .data⟩, ⟨11, .chain⟩, ⟨0, .phase⟩, ⟨1, .phase⟩, ⟨2, .phase⟩, ⟨3, .phase⟩, ⟨4, .phase⟩, ⟨5, .phase⟩, ⟨6, .phase⟩, ⟨7, .phase⟩, ⟨8, .phase⟩, ⟨9, .phase⟩, ⟨10, .phase⟩, ⟨11, .phase⟩, ⟨12, .phase⟩, ⟨13, .phase⟩], none⟩ rfl ?_
 refine wpAnyH_done (by kernel_rfl) ?_ _
 clear hHeld
 clear leq
 go_wp2_with fail
 go_ret
 exact ⟨rfl, HB7.out⟩
end
end Go.Proofs.YtalpnhfoaohhhaaGreat
