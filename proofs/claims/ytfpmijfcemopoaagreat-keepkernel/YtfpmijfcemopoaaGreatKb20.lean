/- BSo PDk Shd PSd -/
import Derived.Test.YtfpmijfcemopoaaGreatTk
import Derived.Test.YtfpmijfcemopoaaGreatKb18
import Derived.Test.YtfpmijfcemopoaaGreatKb19
import Derived.Test.YtfpmijfcemopoaaGreatKb10
import Derived.Deep.CutRange
import Derived.Test.YtfpmijfcemopoaaGreatKb00
import Derived.Laws.AppendOwnNone
import Derived.Shelf.SlSortCmp.WholeK
import Derived.Test.YtfpmijfcemopoaaGreatProg
import Derived.Test.YtfpmijfcemopoaaGreatKb14
import Derived.Test.YtfpmijfcemopoaaGreatKb11
import Derived.Lib.BufferMore
namespace Go.Proofs.YtfpmijfcemopoaaGreat
open Go.RowKit Go.Maps Go.Sort
attribute [local go_sem ↓] ldP_eq stP_eq ldRe_eq stRe_eq bldR_eq run_bldRp
attribute [local go_sem] cells_PV PC_size cells_ReV ReC_size zero_ReC
def CpA (w w' : World) (x : Ending) (r : Rc) : Prop := ∃ c : Rc, x = .returned (ReV (mkR c)) ∧ c.s = r.s ∧ RcOk w' c ∧ PNew w.heap.size c.p ∧ Below w.heap.size w w' ∧ CanonOf (runsAt r.p.P) c.p.P
set_option maxRecDepth 100000 in
set_option maxHeartbeats 1600000 in
theorem copied_any (r : Rc) (w : World) (hR : RcOk w r) : Calls Tryz.prog 41 #[ReV (mkR r)] w fun x w' => CpA w w' x r := by
 have b1 := below_new w (.cells (ReC (mkR r)) 39)
 have b2 := below_new (w.alloc (.cells (ReC (mkR r)) 39)) (.cells (ReC re0) 39)
 have HXA := hide ((ReBox_new w (mkR r)).below b2)
 have X2 := ReBox_new (w.alloc (.cells (ReC (mkR r)) 39)) re0
 rw [World.size_alloc] at X2
 have HXB := hide X2
 have HBK := hide (b1.trans (b2.mono b1.size))
 have HS := hide (hR.1.below HBK.out)
 have HZ : Hid (r.s.size ≤ maxLen) := hR.2
 clear b1 b2 X2 hR
 obtain ⟨wk, hwk⟩ : ∃ wk, (w.alloc (.cells (ReC (mkR r)) 39)).alloc (.cells (ReC re0) 39) = wk := ⟨_, rfl⟩
 obtain ⟨G, HG⟩ : ∃ G, Hid (w.heap.size = G) := ⟨_, rfl⟩
 have hG := HG.out
 rw [hwk] at HXA HXB HBK HS
 rw [hG] at HXA HXB
 have HSt : Hid (∀ W : World, W.heap[G]? = wk.heap[G]? → W.cell? ⟨G, 0, none⟩ = some (.string r.s) ∧ (ldP (.pointer (some ⟨G, 1, none⟩))).run Tryz.prog W = .ok (.agg #[.slice r.p.vo r.p.vn r.p.vc, .slice r.p.co r.p.cn r.p.cc]) W) := fun W h => by
  have X : ReBox W G (mkR r) := h.trans HXA.out
  exact ⟨X.sk, run_ldP X.past⟩
 go_enter Tryz.func41, Tryz.ntmps41
 go_upto_region 1 with fail
 clear hwk
 refine wp_region_held_drew (S := fun W => W.cell? ⟨G, 0, none⟩ = some (.string r.s) ∧ (ldP (.pointer (some ⟨G, 1, none⟩))).run Tryz.prog W = .ok (.agg #[.slice r.p.vo r.p.vn r.p.vc, .slice r.p.co r.p.cn r.p.cc]) W) (by kernel_rfl) (HSt.out _ rfl) (fun hHeld => ?_)
 refine wTk 0 ⟨some 3, .fieldAddr 39 (.tmp 1) 0, 0, "records.go:65", #[], none⟩ rfl ?_
 refine wTk 1 ⟨some 4, .load 9 (.tmp 3), 9, "records.go:65", #[⟨0, .data⟩], none⟩ rfl ?_
 refine wTk 2 ⟨some 5, .fieldAddr 39 (.tmp 1) 1, 0, "records.go:65", #[], none⟩ rfl ?_
 refine wTk 3 ⟨some 6, .load 27 (.tmp 5), 27, "records.go:65", #[⟨2, .data⟩], none⟩ rfl ?_
 refine wpAnyH_ready (rs := [4]) (by kernel_rfl) (by simp) (.cons rfl (fun K hK => ?_) .nil)
 go_simp
 go_wp2_with fail
 refine (pastNorm_any r.p _ (HS.out.below (below_drew1 wk))).mono ?_
 rintro x w3 ⟨c, rfl, Sc, Nc, b3, Cc⟩
 have b03 : Below wk.heap.size wk w3 := (below_drew1 wk).trans b3
 have z3 : w3.heap[G]? = wk.heap[G]? := b03.block G HXA.out.lt
 refine hK.out _ _ (HSt.out _ z3) (fun hHeld => ?_)
 clear hK K
 have X3 : ReBox w3 (G + 1) re0 := HXB.out.below b03
 have t3 := run_stRe (m' := mkR ⟨r.s, c⟩) X3
 have X4 : ReBox (w3.setRow (G + 1) (ReC (mkR ⟨r.s, c⟩))) (G + 1) (mkR ⟨r.s, c⟩) := setRow_heap _ _ _ _ _ _ X3
 have z4 : (w3.setRow (G + 1) (ReC (mkR ⟨r.s, c⟩))).heap[G]? = wk.heap[G]? := (setRow_other _ _ _ _ (by omega)).trans z3
 have hlt : G + 1 < wk.heap.size := HXB.out.lt
 have S4 : PSrc (w3.setRow (G + 1) (ReC (mkR ⟨r.s, c⟩))) c := psrc_keep (g := some (G + 1)) Sc (fun k e => by obtain rfl := Option.some.inj e; exact PFar.new Nc hlt) (fun q _ hq => setRow_other _ _ _ _ (fun e => hq (by rw [e])))
 have HE : Hid (CpA w (w3.setRow (G + 1) (ReC (mkR ⟨r.s, c⟩))) (.returned (ReV (mkR ⟨r.s, c⟩))) r) := ⟨⟨r.s, c⟩, rfl, rfl, ⟨S4, HZ.out⟩, Nc.mono (by have := HBK.out.size; exact this), below_setRow (HBK.out.trans (b03.mono HBK.out.size)) (by omega), Cc⟩
 have HX4 := hide X4
 clear Sc Nc b3 b03 Cc X3 X4 S4 hlt
 refine wTk 5 ⟨some 8, .build 39 #[(0, .tmp 4), (1, .tmp 7)], 39, "records.go:65", #[⟨1, .data⟩, ⟨4, .data⟩], none⟩ rfl ?_
 refine wpAnyH_ready (rs := [6]) (by kernel_rfl) (by simp) (.cons rfl (fun K hK => ?_) .nil)
 go_simp
 refine hK.out _ _ (HSt.out _ z4) (fun hHeld => ?_)
 clear hK K
 refine wpAnyH_done (by kernel_rfl) ?_ _
 clear hHeld
 clear t3 z3 z4
 go_wp2_with fail
 refine bodyPost_ret (res1Re rfl rfl HX4.out) rfl ?_
 exact HE.out
def SoA (w w' : World) (x : Ending) (r : Rc) : Prop := ∃ (h : Hs) (c : Rc), x = .returned (.tuple #[HsV h, .int .i64 0]) ∧ RcS w' h.o 1 h.c [c] ∧ h.n = 1 ∧ c.s = r.s ∧ Below w.heap.size w w' ∧ CanonOf (runsAt r.p.P) c.p.P
def SoI (w W : World) (k : Nat) (x : Hs) (r : Rc) : Prop := ∃ C, OwnRc w.heap.size w W x C ∧ ((k = 0 ∧ C = [] ∧ x.n = 0) ∨ (1 ≤ k ∧ x.n = 1 ∧ ∃ c, C = [c] ∧ c.s = r.s ∧ CanonOf (runsAt r.p.P) c.p.P))
set_option maxRecDepth 100000 in
set_option maxHeartbeats 1600000 in
theorem sortTwo_any (ao : Option Addr) (cap : Nat) (r r2 : Rc) (w : World) (hS : RcS w ao 2 cap [r, r2]) (hs : skuR r.s = true) (hs2 : skuR r2.s = true) (h1 : ¬ EmptyP r.p.P) (h2 : EmptyP r2.p.P) :
  Calls Tryz.prog 10 #[.slice ao 2 cap] w fun x w' => SoA w w' x r := by
 have HS := hide hS
 have Hh : Hid (skuR r.s = true ∧ skuR r2.s = true ∧ ¬ EmptyP r.p.P ∧ EmptyP r2.p.P) := ⟨hs, hs2, h1, h2⟩
 clear hS hs hs2 h1 h2
 go_enter Tryz.func10, Tryz.ntmps10
 go_wp2_with fail
 go_loopw [4, 9] (fun v i wr => ∃ (k : Nat) (x : Hs), k ≤ 2 ∧ v = .slice x.o x.n x.c ∧ i = .int .i64 (k : Int) ∧ Hid (SoI w wr k x r)) (fun _ i _ => 2 - (intOf i).toNat)
 case atStart => exact ⟨0, hs0, Nat.zero_le _, rfl, rfl, ⟨[], OwnRc.nil w, .inl ⟨rfl, rfl, rfl⟩⟩⟩
 case round =>
  obtain ⟨k, x, hk, rfl, rfl, HI⟩ := hrel
  rename World => wr
  by_cases hlt : k < 2
  ·have hlti : (k : Int) < 2 := by omega
   obtain ⟨C, O, hC⟩ := HI.out
   obtain ⟨ad, hao, A0⟩ := (HS.out.below O.below).at k hlt
   have hOk := (HS.out.below O.below).okAt k hlt
   obtain ⟨q, Hq⟩ : ∃ q, Hid ([r, r2].getD k rc0 = q) := ⟨_, rfl⟩
   rw [Hq.out] at A0 hOk
   subst hao
   have hld := run_laRe A0
   obtain ⟨g7, hg7⟩ : ∃ g7, wr.heap.size = g7 := ⟨_, rfl⟩
   obtain ⟨w7, hst, X7, B7, S7⟩ := madeRe wr (mkR q) g7 hg7
   have HO7 := hide (O.later B7)
   have HX7 := hide X7
   have HQ7 := hide (hOk.below B7)
   have c7 := X7.sk
   have Hsk : Hid (skuR q.s = true) := by
    show _ = _
    have hcases : k = 0 ∨ k = 1 := by omega
    rw [← Hq.out]
    rcases hcases with rfl | rfl
    ·exact Hh.out.1
    ·exact Hh.out.2.1
   have hq7 : q.s.size ≤ maxLen := hOk.2
   have HC := hide hC
   have Hlt := hide hlt
   clear A0 X7 B7 S7 O hOk hC HI hlt hk
   go_wp2_with fail
   clear hst hld hg7
   refine (isSkuOrEmpty_any q.s _ hq7).mono ?_
   rintro e w8 ⟨rfl, b8⟩
   rw [Hsk.out]
   have HO8 := hide (HO7.out.later b8)
   have HX8 := hide (HX7.out.below b8)
   have HQ8 := hide (HQ7.out.below b8)
   clear b8 c7 HO7 HX7 HQ7
   have l8 := run_ldP HX8.out.past
   go_wp2_with fail
   clear l8
   refine (pastEmpty_any q.p _ HQ8.out.1).mono ?_
   rintro e w9 ⟨em, rfl, hem, b9⟩
   have HO9 := hide (HO8.out.later b9)
   have HX9 := hide (HX8.out.below b9)
   have HQ9 := hide (HQ8.out.below b9)
   clear b9 HO8 HX8 HQ8
   cases em with
   | true =>
    have HN : Hid (SoI w w9 (k + 1) x r) := by
     refine ⟨C, HO9.out, .inr ?_⟩
     rcases HC.out with ⟨rfl, -, -⟩ | ⟨h1, h2⟩
     ·exact absurd (by rw [← Hq.out] at hem; exact hem.1 rfl) Hh.out.2.2.1
     ·exact ⟨by omega, h2⟩
    clear hem
    go_wp2_with fail
    go_roundw
    case rel => exact ⟨k + 1, x, Hlt.out, rfl, by simp, HN⟩
    case measure => simp [intOf]; have := Hlt.out; omega
   | false =>
    have Hk0 : Hid (k = 0 ∧ C = [] ∧ x.n = 0 ∧ q = r) := by
     rcases HC.out with ⟨rfl, h1, h2⟩ | ⟨h1, -⟩
     ·exact ⟨rfl, h1, h2, by rw [← Hq.out]; rfl⟩
     ·have hk1 : k = 1 := by have := Hlt.out; omega
      subst hk1
      rw [← Hq.out] at hem
      have := hem.2 Hh.out.2.2.2
      cases this
    clear hem
    have l9 := run_ldRe HX9.out
    go_wp2_with fail
    clear l9
    refine (copied_any q _ HQ9.out).mono ?_
    rintro e wa ⟨c, rfl, hcs, Rc1, Nc, ba, Cc⟩
    have Oa := HO9.out.later ba
    have hfar : FarH x c.p := fun j hj => PFar.new Nc (HO9.out.own.lt j hj).2
    obtain ⟨gb, cb, wb, hab, Ob, -⟩ := Oa.app c Rc1 hfar (by have := Hk0.out; omega)
    have HAb : Hid ((Builtin.append_ #[22, 22] 22 #[.slice x.o x.n x.c, .slice (some ⟨wa.heap.size, 0, none⟩) 1 1]).run Tryz.prog (wa.alloc (.cells #[.string c.s, .slice c.p.vo c.p.vn c.p.vc, .slice c.p.co c.p.cn c.p.cc] 39)) = .ok (.slice (some ⟨gb, 0, none⟩) (x.n + 1) cb) wb) := hab
    have HN : Hid (SoI w wb (k + 1) ⟨some ⟨gb, 0, none⟩, x.n + 1, cb⟩ r) := by
     obtain ⟨rfl, rfl, h0, rfl⟩ := Hk0.out
     exact ⟨_, Ob, .inr ⟨by omega, by show x.n + 1 = 1; omega, c, rfl, hcs, Cc⟩⟩
    clear hab Ob Oa hfar hcs Rc1 Nc ba Cc
    go_wp2_with (at_builtin; refine seq_appM rfl (.tmp 21) (.tmp 24) rfl rfl rfl HAb.out ?_)
    go_roundw
    case rel => exact ⟨k + 1, ⟨some ⟨gb, 0, none⟩, x.n + 1, cb⟩, Hlt.out, rfl, by simp, HN⟩
    case measure => simp [intOf]; have := Hlt.out; omega
  ·have hlti : ¬ (k : Int) < 2 := by omega
   have HF : Hid (SoA w wr (.returned (.tuple #[.slice x.o 1 x.c, .int .i64 0])) r ∧ x.n = 1) := by
    obtain ⟨C, O, ⟨h0, -⟩ | ⟨h1, hn, c, rfl, hcs, Cc⟩⟩ := HI.out
    ·omega
    ·have h := O.src (by omega)
     rw [hn] at h
     exact ⟨⟨x, c, by show _ = Ending.returned (.tuple #[.slice x.o x.n x.c, _]); rw [hn], h, hn, hcs, O.below, Cc⟩, hn⟩
   rw [HF.out.2]
   clear HI
   go_wp2_with fail
   refine (sortOne x.o x.c _ _).mono ?_
   rintro e w' ⟨rfl, rfl⟩
   go_wp2_with fail
   refine (compactOne x.o x.c _ _).mono ?_
   rintro e w' ⟨rfl, rfl⟩
   go_wp2_with fail
   go_ret2
   exact HF.out.1
end Go.Proofs.YtfpmijfcemopoaaGreat
namespace Go.Proofs.YtfpmijfcemopoaaGreat
open Go.RowKit

def ldD (v : Value) : Sem Value := Instr.loadAt 47 v
theorem ldD_eq (v : Value) : Instr.loadAt 47 v = ldD v := rfl
def stD (p v : Value) : Sem Unit := Instr.storeAt 47 p v
theorem stD_eq (p v : Value) : Instr.storeAt 47 p v = stD p v := rfl
theorem sizeD : (Tryz.prog.info? 47).map (·.size) = some 2 := by kernel_rfl
theorem infoD : (Tryz.prog.info? 47).map (fun i => (i.zero, i.size, i.bytes)) = some (some (.agg #[.int .i64 0, .int .i64 0]), 2, 16) := by kernel_rfl
theorem run_ldD {w : World} {p : Addr} {r : Rn} (A : RnAt w p r) : (ldD (.pointer (some p))).run Tryz.prog w = .ok (RV r) w := by
 have hl := run_loadCells_list (P := Tryz.prog) (w := w) p (RC r).toList (fun j v hv => by
  match j, hv with
  | 0, hv => cases hv; rw [add_zero]; exact A.c0
  | 1, hv => cases hv; exact A.c1
  | j + 2, hv => simp [RC] at hv)
 unfold ldD
 simp only [Instr.loadAt, Instr.sureAddr, Sem.run_bind, Sem.run_pure, Result.andThen]
 cases hq : Tryz.prog.info? 47 with
 | none => have := sizeD; simp [hq] at this
 | some x =>
  have hs : x.size = 2 := by have := sizeD; simpa [hq] using this
  have hagg : (isAgg 47).run Tryz.prog w = .ok true w := by
   unfold isAgg
   rw [Sem.run_bind, run_underlying Tryz.underlying47 w]
   rfl
  have e2 : (RC r).toList.length = 2 := rfl
  rw [e2] at hl
  simp [loadVar, Sem.run_bind, hagg, sizeOf, typeInfo, hq, hs, hl, RV]
theorem run_stD {w : World} {g : Nat} {T : TypeId} {r r' : Rn} (A : Box w g T r) : (stD (.pointer (some ⟨g, 0, none⟩)) (RV r')).run Tryz.prog w = .ok () (w.setRow g (RC r')) := by
 unfold stD
 have h := run_storeCells_from (P := Tryz.prog) g T (RC r').toList 0 (RC r) w A (by simp [RC]) (RC_one r')
 cases hq : Tryz.prog.info? 47 with
 | none => have := sizeD; simp [hq] at this
 | some x =>
  have hs : x.size = 2 := by have := sizeD; simpa [hq] using this
  simp only [Instr.storeAt, Instr.sureAddr, Sem.run_bind, Sem.run_pure, Result.andThen, storeVar, sizeOf, typeInfo, cells_RV, RC_size]
  simp at h
  simp [h, hq, hs]
theorem madeD (w : World) (r : Rn) (g : Nat) (hg : w.heap.size = g) : ∃ w' : World, (stD (.pointer (some ⟨g, 0, none⟩)) (RV r)).run Tryz.prog (w.alloc (.cells (RC rn0) 47)) = .ok () w' ∧ Box w' g 47 r ∧ Below w.heap.size w w' ∧ w'.heap.size = w.heap.size + 1 := by
 subst hg
 refine ⟨_, run_stD (box_new w 47 rn0), (box_new w 47 rn0).setRow, below_setRow (below_new w _) (Nat.le_refl _), by simp [World.setRow]⟩
structure OwnD (B0 B : Nat) (w w' : World) (ao : Option Addr) (cap : Nat) (acc : List Rn) : Prop where
 own : w'.ownsRow B 47 2 (.slice ao acc.length cap) acc.length (rcs acc)
 below : Below B0 w w'
 hB : B ≤ w'.heap.size
 hB0 : B0 ≤ B
theorem OwnD.later {B0 B : Nat} {w w' w2 : World} {ao : Option Addr} {cap : Nat} {acc : List Rn} (O : OwnD B0 B w w' ao cap acc) (hb : Below w'.heap.size w' w2) : OwnD B0 B w w2 ao cap acc := by
 refine ⟨⟨O.own.1, ?_⟩, O.below.trans (hb.mono (Nat.le_trans O.hB0 O.hB)), Nat.le_trans O.hB hb.size, O.hB0⟩
 rcases O.own.2 with h | ⟨g, cap2, cur, hv, hbg, hgg, r⟩
 ·exact Or.inl h
 ·exact Or.inr ⟨g, cap2, cur, hv, hbg, (hb.block g (Array.getElem?_eq_some_iff.1 hgg).1).trans hgg, r⟩
theorem rcs_cell {w : World} {E : List Rn} {ad : Addr} (h : ∀ t, t < E.length → RnAt w (ad.add (t * 2)) (E.getD t rn0)) (j : Nat) (u : Value) (hj : (rcs E)[j]? = some u) : w.cell? (ad.add j) = some u := by
 have hl : j < E.length * 2 := by rw [← rcs_length]; exact (List.getElem?_eq_some_iff.1 hj).1
 have ht : j / 2 < E.length := by omega
 have e := rcs_at E (j / 2) (j % 2) ht (by omega)
 rw [show j / 2 * 2 + j % 2 = j by omega, hj] at e
 have A := h (j / 2) ht
 have h2 : j % 2 = 0 ∨ j % 2 = 1 := by omega
 rcases h2 with h2 | h2
 ·rw [h2] at e
  have e' : u = .int .i64 (E.getD (j / 2) rn0).lo := by simpa [RC] using e
  rw [e', show ad.add j = ad.add (j / 2 * 2) by rw [show j / 2 * 2 = j by omega]]
  exact A.c0
 ·rw [h2] at e
  have e' : u = .int .i64 (E.getD (j / 2) rn0).hi := by simpa [RC] using e
  have := A.c1
  rw [add_add, show j / 2 * 2 + 1 = j by omega] at this
  rw [e']; exact this
theorem OwnD.append {B0 B : Nat} {w w' : World} {ao : Option Addr} {cap : Nat} {acc : List Rn} (O : OwnD B0 B w w' ao cap acc) (E : List Rn) (ad : Addr) (m c : Nat) (hm : E.length = m) (hE : ∀ t, t < m → RnAt w' (ad.add (t * 2)) (E.getD t rn0)) (hlen : acc.length + m ≤ 8796093022207)
  {ops : Array Oper} {rest : List Oper} {o : Oper} {a : Act} {Q : Exit → Act → World → Prop} (hgd : o.guard = none) (s x : Operand) (ho : o.op = .call { callee := .builtin .append, args := #[s, x], argTypes := #[58, 58] })
  (n : Nat) (hn : acc.length = n) (hs : a.eval s = .slice ao n cap) (hx : a.eval x = .slice (some ad) m c)
  (hK : ∀ (ao2 : Option Addr) (cap2 : Nat) (w2 : World), OwnD B0 B w w2 ao2 cap2 (acc ++ E) → wpList Tryz.prog ops Q rest (a.put o.dst (.slice ao2 (n + m) cap2)) w2) :
  wpList Tryz.prog ops Q (o :: rest) a w' := by
 subst hn hm
 obtain ⟨i0, hi, hz0, hz1, hz2⟩ := info_parts infoD
 have hB := O.hB
 have hB0 := O.hB0
 refine wpList_append_own _ hgd s x 58 ho B 47 i0 (.agg #[.int .i64 0, .int .i64 0]) 2 16 Tryz.underlying58 hi hz0 hz1 hz2 rfl (by decide) _ acc.length (rcs acc) hs O.own ad E.length c (rcs E) hx (rcs_length E) (fun j u hj => rcs_cell hE j u hj) (rcs_onecell E) (by unfold maxLen; omega) (by omega) hB ?_
 intro v' w2 hown hgrow _
 have hrow : ∀ k, (Value.slice ao acc.length cap).ownBlock = some k → B ≤ k := fun k hk => (O.own.lt k hk).1
 have hsz := hgrow.size
 have hb2 : Below B0 w w2 := O.below.grown hgrow (by omega) (fun k hk => by have := hrow k hk; omega)
 rw [← rcs_append] at hown
 rcases hown.2 with ⟨h0, h00⟩ | ⟨g, cap2, cur, hv, r⟩
 ·subst h0
  have e1 : acc = [] := List.eq_nil_of_length_eq_zero (by omega)
  have e2 : E = [] := List.eq_nil_of_length_eq_zero (by omega)
  subst e1 e2
  exact hK none 0 w2 ⟨hown, hb2, by omega, hB0⟩
 ·subst hv
  refine hK (some ⟨g, 0, none⟩) cap2 w2 ⟨?_, hb2, by omega, hB0⟩
  rw [List.length_append]; exact hown
theorem OwnD.appendNone {B0 B : Nat} {w w' : World} {ao : Option Addr} {cap : Nat} {acc : List Rn} (O : OwnD B0 B w w' ao cap acc)
  {ops : Array Oper} {rest : List Oper} {o : Oper} {a : Act} {Q : Exit → Act → World → Prop} (hgd : o.guard = none) (s x : Operand) (ho : o.op = .call { callee := .builtin .append, args := #[s, x], argTypes := #[58, 58] })
  (n : Nat) (hn : acc.length = n) (hs : a.eval s = .slice ao n cap) (hx : a.eval x = .slice none 0 0)
  (hK : wpList Tryz.prog ops Q rest (a.put o.dst (.slice ao n cap)) w') :
  wpList Tryz.prog ops Q (o :: rest) a w' := by
 subst hn
 obtain ⟨i0, hi, hz0, hz1, hz2⟩ := info_parts infoD
 exact wpList_append_own_none hgd s x 58 ho B 47 i0 2 Tryz.underlying58 hi _ acc.length (rcs acc) hs O.own hx hK
theorem OwnD.src {B0 B : Nat} {w w' : World} {ao : Option Addr} {cap : Nat} {acc : List Rn} (O : OwnD B0 B w w' ao cap acc) (hl : acc.length ≤ 8796093022207) : RSrc w' ao acc.length cap acc ∧ ∀ ad, ao = some ad → B ≤ ad.block := by
 rcases O.own.2 with ⟨h0, h00⟩ | ⟨g, cap2, cur, hv, hbg, hgg, hnc, hcm, hcsz, htake⟩
 ·simp only [Value.slice.injEq] at h0
  obtain ⟨rfl, e0, rfl⟩ := h0
  exact ⟨⟨rfl, fun _ => ⟨h00, rfl⟩, (fun ad h => by cases h), by omega, Nat.zero_le _, hl⟩, fun ad h => (by cases h)⟩
 ·simp only [Value.slice.injEq, true_and] at hv
  obtain ⟨rfl, rfl⟩ := hv
  have cell : ∀ t j, t < acc.length → j < 2 → w'.cell? ⟨g, t * 2 + j, none⟩ = (RC (acc.getD t rn0)).toList[j]? := fun t j ht hj => by
   rw [O.own.cellAt (t * 2 + j) (by omega), rcs_at _ t j ht hj]
  refine ⟨⟨rfl, fun h => (by cases h), fun ad h t ht => ?_, hnc, hcm, hl⟩, fun ad h => by obtain rfl := Option.some.inj h; exact hbg⟩
  obtain rfl := Option.some.inj h
  refine ⟨?_, ?_⟩
  ·rw [Addr.add_lit, Nat.zero_add]; exact cell t 0 ht (by omega)
  ·rw [Addr.add_lit, Addr.add_lit, Nat.zero_add]; exact cell t 1 ht (by omega)
theorem OwnD.appendS {B0 B : Nat} {w w' : World} {ao : Option Addr} {cap : Nat} {acc : List Rn} (O : OwnD B0 B w w' ao cap acc) (E : List Rn) (xo : Option Addr) (m c : Nat) (S : RSrc w' xo m c E) (hlen : acc.length + m ≤ 8796093022207)
  {ops : Array Oper} {rest : List Oper} {o : Oper} {a : Act} {Q : Exit → Act → World → Prop} (hgd : o.guard = none) (s x : Operand) (ho : o.op = .call { callee := .builtin .append, args := #[s, x], argTypes := #[58, 58] })
  (n : Nat) (hn : acc.length = n) (hs : a.eval s = .slice ao n cap) (hx : a.eval x = .slice xo m c)
  (hK : ∀ (ao2 : Option Addr) (cap2 : Nat) (w2 : World), OwnD B0 B w w2 ao2 cap2 (acc ++ E) → wpList Tryz.prog ops Q rest (a.put o.dst (.slice ao2 (n + m) cap2)) w2) :
  wpList Tryz.prog ops Q (o :: rest) a w' := by
 cases xo with
 | some ad => exact O.append E ad m c S.len (fun t ht => S.cell ad rfl t ht) hlen hgd s x ho n hn hs hx hK
 | none =>
  obtain ⟨rfl, rfl⟩ := S.nil rfl
  have e := List.eq_nil_of_length_eq_zero S.len
  subst e
  refine O.appendNone hgd s x ho n hn hs hx ?_
  have := hK ao cap w'
  rw [List.append_nil, Nat.add_zero] at this
  exact this O
theorem ownD_made (w : World) : OwnD w.heap.size w.heap.size w (w.alloc (.cells #[] 47)) (some ⟨w.heap.size, 0, none⟩) 0 [] :=
 ⟨World.ownsRow_made w #[] 0 (Nat.le_refl _) (Nat.zero_le _) rfl, below_new w _, by simp, Nat.le_refl _⟩
end Go.Proofs.YtfpmijfcemopoaaGreat
namespace Go.Proofs
open Go.Shelf
def Tryz.sortD_ren : Go.Shelf.Ren := ⟨fun | 6 => 104 | 15 => 86 | 14 => 146 | 28 => 137 | 29 => 138 | 20 => 176 | 21 => 177 | 22 => 178 | 23 => 179 | 24 => 180 | 25 => 181 | 26 => 182 | 27 => 183 | 46 => 202 | 47 => 164 | 48 => 165 | 49 => 203 | 50 => 204 | 57 => 228 | n => n, fun | 22 => 58 | 24 => 47 | 25 => 125 | 3 => 3 | 39 => 108 | 0 => 0 | 53 => 157 | 55 => 159 | 4 => 4 | 46 => 150 | 45 => 149 | 50 => 154 | 5 => 5 | 9 => 9 | 66 => 180 | 70 => 184 | 76 => 207 | 77 => 109 | n => n, fun | n => n⟩
theorem Tryz.sortD : Go.Proofs.SlLaysF0.n6 Tryz.prog Tryz.sortD_ren := {
 mixed := by kernel_rfl
 f6 := ⟨Tryz.f104.name, by decide, Tryz.func104.trans (congrArg some (by kernel_rfl))⟩
 f14 := ⟨Tryz.f146.name, by decide, Tryz.func146.trans (congrArg some (by kernel_rfl))⟩
 f15 := Tryz.func86.trans (congrArg some (by kernel_rfl))
 f20 := ⟨Tryz.f176.name, by decide, Tryz.func176.trans (congrArg some (by kernel_rfl))⟩
 f21 := ⟨Tryz.f177.name, by decide, Tryz.func177.trans (congrArg some (by kernel_rfl))⟩
 f22 := ⟨Tryz.f178.name, by decide, Tryz.func178.trans (congrArg some (by kernel_rfl))⟩
 f23 := ⟨Tryz.f179.name, by decide, Tryz.func179.trans (congrArg some (by kernel_rfl))⟩
 f24 := ⟨Tryz.f180.name, by decide, Tryz.func180.trans (congrArg some (by kernel_rfl))⟩
 f25 := ⟨Tryz.f181.name, by decide, Tryz.func181.trans (congrArg some (by kernel_rfl))⟩
 f26 := ⟨Tryz.f182.name, by decide, Tryz.func182.trans (congrArg some (by kernel_rfl))⟩
 f27 := ⟨Tryz.f183.name, by decide, Tryz.func183.trans (congrArg some (by kernel_rfl))⟩
 f28 := Tryz.func137.trans (congrArg some (by kernel_rfl))
 f29 := Tryz.func138.trans (congrArg some (by kernel_rfl))
 f46 := ⟨Tryz.f202.name, by decide, Tryz.func202.trans (congrArg some (by kernel_rfl))⟩
 f47 := Tryz.func164.trans (congrArg some (by kernel_rfl))
 f48 := Tryz.func165.trans (congrArg some (by kernel_rfl))
 f49 := ⟨Tryz.f203.name, by decide, Tryz.func203.trans (congrArg some (by kernel_rfl))⟩
 f50 := ⟨Tryz.f204.name, by decide, Tryz.func204.trans (congrArg some (by kernel_rfl))⟩
 f57 := ⟨Tryz.f228.name, by decide, Tryz.func228.trans (congrArg some (by kernel_rfl))⟩
 t0 := Tryz.underlying0
 a0 := Tryz.isAgg0
 z0 := Tryz.sizeOf0
 v0 := Tryz.zeroValue0
 t3 := Tryz.underlying3
 a3 := Tryz.isAgg3
 z3 := Tryz.sizeOf3
 v3 := Tryz.zeroValue3
 t4 := Tryz.underlying4
 a4 := Tryz.isAgg4
 z4 := Tryz.sizeOf4
 v4 := Tryz.zeroValue4
 t5 := Tryz.underlying5
 a5 := Tryz.isAgg5
 z5 := Tryz.sizeOf5
 v5 := Tryz.zeroValue5
 t9 := Tryz.underlying9
 a9 := Tryz.isAgg9
 z9 := Tryz.sizeOf9
 v9 := Tryz.zeroValue9
 t22 := Tryz.underlying58
 a22 := Tryz.isAgg58
 z22 := Tryz.sizeOf58
 v22 := Tryz.zeroValue58
 t25 := Tryz.underlying125
 a25 := Tryz.isAgg125
 z25 := Tryz.sizeOf125
 v25 := Tryz.zeroValue125
 t39 := Tryz.underlying108
 a39 := Tryz.isAgg108
 z39 := Tryz.sizeOf108
 v39 := Tryz.zeroValue108
 t45 := Tryz.underlying149
 a45 := Tryz.isAgg149
 z45 := Tryz.sizeOf149
 v45 := Tryz.zeroValue149
 t46 := Tryz.underlying150
 a46 := Tryz.isAgg150
 z46 := Tryz.sizeOf150
 v46 := Tryz.zeroValue150
 t50 := Tryz.underlying154
 a50 := Tryz.isAgg154
 z50 := Tryz.sizeOf154
 v50 := Tryz.zeroValue154
 t53 := Tryz.underlying157
 a53 := Tryz.isAgg157
 z53 := Tryz.sizeOf157
 v53 := Tryz.zeroValue157
 t55 := Tryz.underlying159
 a55 := Tryz.isAgg159
 z55 := Tryz.sizeOf159
 v55 := Tryz.zeroValue159
 t66 := Tryz.underlying180
 a66 := Tryz.isAgg180
 z66 := Tryz.sizeOf180
 v66 := Tryz.zeroValue180
 t70 := Tryz.underlying184
 a70 := Tryz.isAgg184
 z70 := Tryz.sizeOf184
 v70 := Tryz.zeroValue184
 t76 := Tryz.underlying207
 a76 := Tryz.isAgg207
 z76 := Tryz.sizeOf207
 v76 := Tryz.zeroValue207
 t77 := Tryz.underlying109
 a77 := Tryz.isAgg109
 z77 := Tryz.sizeOf109
 v77 := Tryz.zeroValue109 }
end Go.Proofs
namespace Go.Proofs.YtfpmijfcemopoaaGreat
open Go.RowKit Go.Sort

def or2 (a b : Int) : Int := if a = 0 then b else a
set_option maxHeartbeats 800000 in
theorem or2_any (g : Nat) (a b : Int) (w : World) (c0 : w.cell? ⟨g, 0, none⟩ = some (.int .i64 a)) (c1 : w.cell? ⟨g, 1, none⟩ = some (.int .i64 b)) :
  Calls Tryz.prog 143 #[.slice (some ⟨g, 0, none⟩) 2 2] w fun e w' => e = .returned (.int .i64 (or2 a b)) ∧ w' = w := by
 go_enter Tryz.func143, Tryz.ntmps143
 go_wp2
 go_loop [8] (fun i => ∃ k : Nat, k ≤ 2 ∧ i = .int .i64 k ∧ Hid (0 < k → a = 0) ∧ Hid (1 < k → b = 0)) (fun i => 2 - (intOf i).toNat)
 case atStart => exact ⟨0, Nat.zero_le _, rfl, fun h => absurd h (by omega), fun h => absurd h (by omega)⟩
 case round =>
  obtain ⟨k, hk, rfl, Ha, Hb⟩ := hrel
  by_cases hlt : k < 2
  ·obtain ⟨z, hcell, Hz⟩ : ∃ z, w.cell? ⟨g, k, none⟩ = some (.int .i64 z) ∧ Hid (or2 a b = if z = 0 ∧ k = 0 then b else z) := by
    match k, hlt, Ha with
    | 0, _, _ => exact ⟨a, c0, by show _ = _; unfold or2; by_cases h : a = 0 <;> simp [h]⟩
    | 1, _, Ha => exact ⟨b, c1, by show _ = _; unfold or2; rw [if_pos (Ha.out (by omega))]; simp⟩
   have Hz0 : Hid (z = 0 → (k = 0 → a = 0) ∧ (k = 1 → b = 0)) := by
    intro hz
    constructor
    ·intro h; subst h; rw [c0] at hcell; simpa [hz] using hcell
    ·intro h; subst h; rw [c1] at hcell; simpa [hz] using hcell
   clear c0 c1
   by_cases h0 : z = 0
   ·have hA := (Hz0.out h0).1
    have hB := (Hz0.out h0).2
    have HA : Hid (0 < k + 1 → a = 0) := by intro _; by_cases hk0 : k = 0; exact hA hk0; exact Ha.out (by omega)
    have HB : Hid (1 < k + 1 → b = 0) := by intro _; exact hB (by omega)
    have h0' : (z != 0) = false := by simpa using h0
    clear h0 hA hB
    go_wp2
    go_round
    case rel => exact ⟨k + 1, by omega, by go_num, HA, HB⟩
    case measure => simp [intOf]; omega
   ·have h0' : (z != 0) = true := by simpa using h0
    have HF : Hid (or2 a b = z) := by show _ = _; rw [Hz.out, if_neg (by simp [h0])]
    clear h0
    go_wp2
    go_ret
    exact ⟨ret_int HF.out.symm, rfl⟩
  ·have HF : Hid (or2 a b = 0) := by show _ = _; unfold or2; rw [if_pos (Ha.out (by omega))]; exact Hb.out (by omega)
   clear c0 c1
   go_wp2
   go_ret
   exact ⟨ret_int HF.out.symm, rfl⟩
def byD (x y : Rn) : Int := or2 (cmpI x.lo y.lo) (cmpI x.hi y.hi)
def aheadD (x y : Rn) : Bool := decide (x.lo < y.lo) || (x.lo == y.lo && decide (x.hi < y.hi))
theorem byD_lt (x y : Rn) : ltOf byD x y = aheadD x y := by
 unfold ltOf byD or2 cmpI aheadD
 by_cases h1 : x.lo < y.lo
 ·simp [h1]
 ·by_cases h2 : y.lo < x.lo
  ·have : ¬ x.lo = y.lo := by omega
   simp [h1, h2, this]
  ·have e : x.lo = y.lo := by omega
   by_cases h3 : x.hi < y.hi
   ·simp [e, h3]
   ·by_cases h4 : y.hi < x.hi <;> simp [e, h3, h4]
theorem byD_swo : SWO (ltOf byD) where
 irrefl x := by rw [byD_lt]; simp [aheadD]
 trans x y z h1 h2 := by rw [byD_lt] at *; simp [aheadD] at *; omega
 ntrans x y z h1 h2 := by rw [byD_lt] at *; simp [aheadD] at *; omega
theorem grew_by (w : World) (a b c : Obj) : Grew w (((w.alloc a).alloc b).drew.alloc c) := by
 refine ⟨1, #[a] ++ #[b] ++ #[c], ?_⟩
 rw [alloc_eq_grow ((w.alloc a).alloc b).drew c, alloc_eq_grow (w.alloc a) b, alloc_eq_grow w a, grow_grow, drew_grow, grow_grow]
 rfl
structure TwoD (w W : World) (x y : Rn) : Prop where
 below : Below w.heap.size w W
 size : w.heap.size + 2 ≤ W.heap.size
 a0 : W.cell? ⟨w.heap.size, 0, none⟩ = some (.int .i64 x.lo)
 a1 : W.cell? ⟨w.heap.size, 1, none⟩ = some (.int .i64 x.hi)
 b0 : W.cell? ⟨w.heap.size + 1, 0, none⟩ = some (.int .i64 y.lo)
 b1 : W.cell? ⟨w.heap.size + 1, 1, none⟩ = some (.int .i64 y.hi)
theorem TwoD.start (w : World) (x y : Rn) : TwoD w ((w.alloc (.cells #[.int .i64 x.lo, .int .i64 x.hi] 47)).alloc (.cells #[.int .i64 y.lo, .int .i64 y.hi] 47)) x y :=
 ⟨(below_new w _).trans ((below_new _ _).mono (by simp)), by simp, by simp, by simp, by simp, by simp⟩
theorem TwoD.on {w W W' : World} {x y : Rn} (h : TwoD w W x y) (hb : Below W.heap.size W W') : TwoD w W' x y :=
 ⟨h.below.trans (hb.mono h.below.size), Nat.le_trans h.size hb.size, (hb.cell (World.block_lt_of_cell? _ _ h.a0)).trans h.a0, (hb.cell (World.block_lt_of_cell? _ _ h.a1)).trans h.a1, (hb.cell (World.block_lt_of_cell? _ _ h.b0)).trans h.b0, (hb.cell (World.block_lt_of_cell? _ _ h.b1)).trans h.b1⟩
theorem or2_new (a b : Int) (w : World) (g : Nat) (hg : w.heap.size = g) : Calls Tryz.prog 143 #[.slice (some ⟨g, 0, none⟩) 2 2] (w.alloc (.cells #[.int .i64 a, .int .i64 b] 3)) fun e w' => e = .returned (.int .i64 (or2 a b)) ∧ w' = w.alloc (.cells #[.int .i64 a, .int .i64 b] 3) := by
 subst hg
 exact or2_any w.heap.size a b _ (by simp) (by simp)
set_option maxHeartbeats 1600000 in
theorem byDot_gr (x y : Rn) (w : World) : Calls Tryz.prog 105 #[.agg #[.int .i64 x.lo, .int .i64 x.hi], .agg #[.int .i64 y.lo, .int .i64 y.hi]] w fun e w' => e = .returned (.int .i64 (byD x y)) ∧ Grew w w' := by
 have T0 := hide (TwoD.start w x y)
 obtain ⟨w0, Hw0⟩ : ∃ w0, Hid ((w.alloc (.cells #[.int .i64 x.lo, .int .i64 x.hi] 47)).alloc (.cells #[.int .i64 y.lo, .int .i64 y.hi] 47) = w0) := ⟨_, rfl⟩
 rw [Hw0.out] at T0
 have c1 := T0.out.a0
 have c2 := T0.out.a1
 have c3 := T0.out.b0
 have c4 := T0.out.b1
 obtain ⟨p, Hp⟩ : ∃ p, Hid (cmpI x.lo y.lo = p) := ⟨_, rfl⟩
 obtain ⟨q, Hq⟩ : ∃ q, Hid (cmpI x.hi y.hi = q) := ⟨_, rfl⟩
 have C1 : Hid (∀ W, Calls Tryz.prog 142 #[.int .i64 x.lo, .int .i64 y.lo] W fun e w' => e = .returned (.int .i64 p) ∧ w' = W) := fun W => by rw [← Hp.out]; exact cmp_any _ _ W
 have C2 : Hid (∀ W, Calls Tryz.prog 142 #[.int .i64 x.hi, .int .i64 y.hi] W fun e w' => e = .returned (.int .i64 q) ∧ w' = W) := fun W => by rw [← Hq.out]; exact cmp_any _ _ W
 have HF : Hid (or2 p q = byD x y) := by show _ = _; unfold byD; rw [Hp.out, Hq.out]
 have T1 : Hid (TwoD w (w0.drew.alloc (.cells #[.int .i64 p, .int .i64 q] 3)) x y) := (T0.out.on (below_drew1 _)).on (below_new _ _)
 have HO := hide (or2_new p q w0.drew w0.heap.size rfl)
 have HG : Hid (Grew w (w0.drew.alloc (.cells #[.int .i64 p, .int .i64 q] 3))) := by rw [← Hw0.out]; exact grew_by _ _ _ _
 obtain ⟨r, m⟩ := x
 obtain ⟨r', m'⟩ := y
 go_enter Tryz.func105, Tryz.ntmps105
 go_wp2_with fail
 rw [Hw0.out]
 first | (go_region_held (fun W => W.cell? ⟨w.heap.size, 0, none⟩ = some (.int .i64 r) ∧ W.cell? ⟨w.heap.size, 1, none⟩ = some (.int .i64 m) ∧ W.cell? ⟨w.heap.size + 1, 0, none⟩ = some (.int .i64 r') ∧ W.cell? ⟨w.heap.size + 1, 1, none⟩ = some (.int .i64 m')) (first | exact ⟨T1.out.a0, T1.out.a1, T1.out.b0, T1.out.b1⟩ | go_keep) (first | (go_at_call_of 142 r; refine (C1.out _).mono ?_; rintro e w' ⟨rfl, rfl⟩) | (go_at_call_of 142 m; refine (C2.out _).mono ?_; rintro e w' ⟨rfl, rfl⟩) | (go_at_call 143; refine HO.out.mono ?_; rintro e w' ⟨rfl, rfl⟩))) | fail
 all_goals (go_wp2_with fail)
 all_goals go_ret
 all_goals exact ⟨ret_int HF.out, HG.out⟩
theorem cmpLaysD (blk size : Nat) (w : World) : CmpLays Tryz.prog 105 #[] encR 2 byD blk 0 size w :=
 fun _ _ _ _ x y => byDot_gr x y _
theorem sortD_any (ad : Addr) (cap n : Nat) (d : Array Rn) (w : World) (M : MR w ad d) (hn : d.size = n) (hb : n ≤ 8796093022207) :
  Calls Tryz.prog 104 #[.slice (some ad) n cap, .func (.func 105) #[] #[]] w fun e w' => e = .returned (.tuple #[]) ∧ ∃ d', d'.toList.Perm d.toList ∧ d'.size = n ∧ MR w' ad d' ∧ Below ad.block w w' := by
 subst hn
 have eg : ∀ args w, (callFunc 105 args).run Tryz.prog w = .ok (.enter 105 args) w := enters_of Tryz.func105 (by kernel_rfl) rfl
 have h := AnyQ.slices_SortFunc Tryz.sortD 2 Tryz.isAgg47 Tryz.sizeOf47 encR (fun _ => rfl) (fun x v hv => RC_one x v hv) byD byD_swo 105 #[] ad.block 0 cap d w eg (cmpLaysD ad.block d.size w) M.hk M.lt (by omega)
 rw [← M.ha] at h
 refine Calls.mono h ?_
 rintro e w' ⟨rfl, d', m, os, ⟨hs, _, hp⟩, _, rfl⟩
 refine ⟨rfl, d', ?_, hs, ⟨holdsK_sortWorldK_c encR 2 w ad.block 0 d d' m os M.hk M.lt hs, ?_, M.ha⟩, ?_⟩
 ·have e1 : d'.extract 0 d.size = d' := by rw [← hs]; simp
  have e2 : d.extract 0 d.size = d := by simp
  rwa [e1, e2] at hp
 ·have := M.lt
  show ad.block < ((putRow id (Sort.ahead w m) ad.block 0 (flatK encR 2 d')).heap ++ os).size
  rw [Array.size_append, size_putRow]
  show ad.block < w.heap.size + os.size
  omega
 ·have h1 : Below ad.block w (putRow id (Sort.ahead w m) ad.block 0 (flatK encR 2 d')) := Lib.below_putRow (Below.refl _ _) (Nat.le_refl _)
  refine h1.trans ?_
  have hsz : ad.block ≤ (putRow id (Sort.ahead w m) ad.block 0 (flatK encR 2 d')).heap.size := by rw [size_putRow]; exact Nat.le_of_lt M.lt
  show Below ad.block _ (grow (putRow id (Sort.ahead w m) ad.block 0 (flatK encR 2 d')) os)
  generalize putRow id (Sort.ahead w m) ad.block 0 (flatK encR 2 d') = V at hsz
  exact ⟨rfl, rfl, rfl, by show _ ≤ (V.heap ++ os).size; rw [Array.size_append]; omega, fun k hk => by show (V.heap ++ os)[k]? = _; rw [Array.getElem?_append_left (by omega)]⟩
theorem OwnD.mr {B0 B : Nat} {w w' : World} {ad : Addr} {cap : Nat} {acc : List Rn} (O : OwnD B0 B w w' (some ad) cap acc) : MR w' ad acc.toArray ∧ B ≤ ad.block ∧ acc.length ≤ cap ∧ cap ≤ maxLen := by
 rcases O.own.2 with ⟨h0, _⟩ | ⟨g, c, cur, hv, hbg, hgg, hnc, hcm, hcsz, htake⟩
 ·cases h0
 ·simp only [Value.slice.injEq, Option.some.injEq, true_and] at hv
  obtain ⟨rfl, rfl⟩ := hv
  refine ⟨⟨fun j hj => ?_, (Array.getElem?_eq_some_iff.1 hgg).1, rfl⟩, hbg, hnc, hcm⟩
  rw [Sort.size_flatK] at hj
  have hj' : j < acc.length * 2 := by simpa using hj
  refine ⟨?_, by simp [World.frozen?, hgg]⟩
  rw [Nat.zero_add, O.own.cellAt j (by omega), Sort.get_flatK _ _ _ _ hj]
  have e4 := rcs_at acc (j / 2) (j % 2) (by omega) (by omega)
  rw [show j / 2 * 2 + j % 2 = j by omega] at e4
  rw [e4]
  have e5 : acc.toArray[j / 2]! = acc.getD (j / 2) rn0 := by
   rw [getElem!_pos acc.toArray (j / 2) (by simp; omega)]; simp [List.getD, show j / 2 < acc.length by omega]
  rw [e5]
  have : j % 2 = 0 ∨ j % 2 = 1 := by omega
  rcases this with h | h <;> rw [h] <;> rfl
set_option maxRecDepth 100000 in
theorem cloneD_any (ad : Addr) (n c : Nat) (D : List Rn) (w : World) (hS : RSrc w (some ad) n c D) :
  Calls Tryz.prog 103 #[.slice (some ad) n c] w fun e w' => ∃ ao c', e = .returned (.slice ao n c') ∧ OwnD w.heap.size w.heap.size w w' ao c' D := by
 have HO := hide (ownD_made w)
 have HS := hide (hS.below (below_new w (.cells #[] 47)))
 have HB := hS.big
 have hnil : (binOp .eql 58 (.slice (some ad) n c) (.slice none 0 0)).run Tryz.prog w = .ok (.bool false) w := Lib.run_eql_slice_some_nil w _ _ _ Tryz.underlying58
 clear hS
 go_enter Tryz.func103, Tryz.ntmps103
 go_wp2_with (at_builtin; refine HO.out.appendS D (some ad) n c HS.out (by simp only [List.length_nil]; omega) rfl (.tmp 5) (.tmp 6) rfl 0 rfl rfl rfl ?_; intro ao3 c3 w3 O3; rw [List.nil_append] at O3; have HO3 := hide O3; clear O3)
 go_ret
 exact ⟨ao3, c3, by simp, HO3.out⟩
set_option maxRecDepth 100000 in
theorem compact1_any (ao : Option Addr) (n c : Nat) (w : World) (hn : n < 2) :
  Calls Tryz.prog 106 #[.slice ao n c] w fun e w' => e = .returned (.slice ao n c) ∧ w' = w := by
 have h : (n : Int) < 2 := by omega
 go_enter Tryz.func106, Tryz.ntmps106
 go_wp2_with fail
 go_ret
 exact ⟨rfl, rfl⟩
end Go.Proofs.YtfpmijfcemopoaaGreat
