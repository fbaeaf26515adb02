/- The law's own dotsOf: some row of dots. -/
import Derived.Test.YtlnhafjpmkopgaaPDk
namespace Go.Proofs.Ytlnhafjpmkopgaa
open Go.RowKit

def CasC (a b c : Pv) (dv : Value) (rp ms : Int) : Array Value := #[.slice a.vo a.vn a.vc, .slice a.co a.cn a.cc, .slice b.vo b.vn b.vc, .slice b.co b.cn b.cc, .slice c.vo c.vn c.vc, .slice c.co c.cn c.cc, dv, .int .i64 rp, .int .i64 ms]
abbrev CasV (a b c : Pv) (dv : Value) (rp ms : Int) : Value := .agg (CasC a b c dv rp ms)
theorem cells_CasV (a b c : Pv) (dv : Value) (rp ms : Int) : (CasV a b c dv rp ms).cells = CasC a b c dv rp ms := by simp [Value.cells]
/-- the block g is a variable that holds the case -/
def CBox (w : World) (g : Nat) (C : Array Value) : Prop := w.heap[g]? = some (.cells C 28 (0, 0))
theorem CBox.lt {w : World} {g : Nat} {C : Array Value} (h : CBox w g C) : g < w.heap.size := (Array.getElem?_eq_some_iff.1 h).1
theorem CBox.below {w w' : World} {g : Nat} {C : Array Value} (h : CBox w g C) (hb : Below w.heap.size w w') : CBox w' g C := (hb.block g h.lt).trans h
theorem CBox.cell {w : World} {g : Nat} {C : Array Value} (h : CBox w g C) (i : Nat) : w.cell? ⟨g, i, none⟩ = C[i]? := by unfold CBox at h; simp [World.cell?, h]
theorem cbox_new (w : World) (C : Array Value) : CBox (w.alloc (.cells C 28)) w.heap.size C := by unfold CBox; rw [heap_alloc_new]
theorem fold_D1 (d : Rn) : Array.foldl (fun cs x => cs.setIfInBounds x.snd x.fst) #[(RC rn0)[0]!, (RC rn0)[1]!] (RC d).zipIdx 0 2 = RC d := rfl
theorem lit_at (w : World) (E : List Rn) (C : Array Value) (hC : C = (rcs E).toArray) (T : TypeId) (t : Nat) (ht : t < E.length) : RnAt (w.alloc (.cells C T)) ((⟨w.heap.size, 0, none⟩ : Addr).add (t * 2)) (E.getD t rn0) := by
  subst hC
  refine ⟨?_, ?_⟩
  · rw [Addr.add_lit, Nat.zero_add, World.cell?_alloc_new, List.getElem?_toArray]
    exact rcs_at E t 0 ht (by omega)
  · rw [Addr.add_lit, Addr.add_lit, Nat.zero_add, World.cell?_alloc_new, List.getElem?_toArray]
    exact rcs_at E t 1 ht (by omega)
/-- a row of dots is handed back; old memory stands -/
def GivesD (w w' : World) (e : Ending) : Prop := ∃ ao n c L, e = .returned (.slice ao n c) ∧ RSrc w' ao n c L ∧ Below w.heap.size w w'
attribute [local go_sem ↓] ldS_eq stS_eq ldD_eq stD_eq
attribute [local go_sem] cells_CasV zero_SC build_SC cells_SV fold_SC SC_size cells_RV RC_size fold_RC
set_option maxRecDepth 100000 in
set_option maxHeartbeats 4000000 in
theorem dotsOf_any (a b c : Pv) (dno : Option Addr) (dn dc : Nat) (D : List Rn) (rp ms : Int) (w : World) (hA : PSrc w a) (hD : RSrc w dno dn dc D) (hn : dn ≤ 1048576) (hc : a.cn ≤ 1048576) :
    Calls Try.prog 12 #[CasV a b c (.slice dno dn dc) rp ms] w fun e w' => GivesD w w' e := by
  obtain ⟨w1, hw1⟩ : ∃ w1, w.alloc (.cells (CasC a b c (.slice dno dn dc) rp ms) 28) = w1 := ⟨_, rfl⟩
  have HBK := hide (below_new w (.cells (CasC a b c (.slice dno dn dc) rp ms) 28))
  have HCB := hide (cbox_new w (CasC a b c (.slice dno dn dc) rp ms))
  rw [hw1] at HBK HCB
  have HZ1 : Hid (w1.heap.size = w.heap.size + 1) := by show _ = _; rw [← hw1]; simp
  have HSC := hide (hA.below HBK.out).cloud
  have HSD := hide (hD.below HBK.out)
  have HLD := hide hD.len
  have k1 : w1.cell? ⟨w.heap.size, 1, none⟩ = some (.slice a.co a.cn a.cc) := HCB.out.cell 1
  have k6 : w1.cell? ⟨w.heap.size, 6, none⟩ = some (.slice dno dn dc) := HCB.out.cell 6
  have k7 : w1.cell? ⟨w.heap.size, 7, none⟩ = some (.int .i64 rp) := HCB.out.cell 7
  have k8 : w1.cell? ⟨w.heap.size, 8, none⟩ = some (.int .i64 ms) := HCB.out.cell 8
  clear hA hD
  have HO2 := hide (ownD_made w1)
  have b2 := below_new w1 (.cells #[] 35)
  obtain ⟨w2, hw2⟩ : ∃ w2, w1.alloc (.cells #[] 35) = w2 := ⟨_, rfl⟩
  rw [hw2] at HO2 b2
  have HSD2 := hide (HSD.out.below b2)
  have j6 := (b2.cell (World.block_lt_of_cell? _ _ k6)).trans k6
  clear k6 b2 HSD
  go_enter Try.func12, Try.ntmps12
  go_wp2_with (at_builtin; first | (refine (HO3.out.later (below_new w3 _)).appendS [⟨rp, ms⟩] (some ⟨w3.heap.size, 0, none⟩) 1 1 (lit_rsrc w3 [⟨rp, ms⟩] _ rfl 35 1 rfl (by omega)) (by rw [HLD.out]; omega) rfl (.tmp 10) (.tmp 16) rfl dn HLD.out rfl rfl ?_; intro ao4 c4 w4 O4; have HO4 := hide O4; clear O4) | (refine HO2.out.appendS D dno dn dc HSD2.out (by simp only [List.length_nil]; omega) rfl (.tmp 6) (.tmp 8) rfl 0 rfl rfl rfl ?_; intro ao3 c3 w3 O3; rw [List.nil_append] at O3; have HO3 := hide O3; have h7 := (O3.below.cell (World.block_lt_of_cell? _ _ k7)).trans k7; have h8 := (O3.below.cell (World.block_lt_of_cell? _ _ k8)).trans k8; clear O3))
  clear HO2 HSD2 j6 HO3 h7 h8 k7 k8
  have HL4 : Hid ((D ++ [(⟨rp, ms⟩ : Rn)]).length = dn + 1) := by show _ = _; rw [List.length_append, HLD.out]; rfl
  generalize D ++ [(⟨rp, ms⟩ : Rn)] = D4 at HO4 HL4
  go_loopw [3, 4] (fun l i wr => ∃ (j : Nat) (ao : Option Addr) (cap : Nat) (acc : List Rn), j ≤ a.cn ∧ l = .slice ao acc.length cap ∧ i = .int .i64 j ∧ Hid (OwnD w1.heap.size w1.heap.size w1 wr ao cap acc ∧ acc.length = dn + 1 + 4 * j)) (fun _ i _ => a.cn - (intOf i).toNat)
  case atStart => exact ⟨0, ao4, c4, D4, Nat.zero_le _, by rw [HL4.out], rfl, HO4.out, HL4.out⟩
  case round =>
    obtain ⟨j, ao, cap, acc, hj, rfl, rfl, HI⟩ := hrel
    rename World => w6
    clear HO4 HL4
    have p1 := (HI.out.1.below.cell (World.block_lt_of_cell? _ _ k1)).trans k1
    by_cases hlt : j < a.cn
    · obtain ⟨ad, hco, A0⟩ := (HSC.out.below HI.out.1.below).at j hlt
      rw [hco] at p1
      obtain ⟨x, Hx⟩ : ∃ x, Hid (a.P.cloud.getD j sn0 = x) := ⟨_, rfl⟩
      rw [Hx.out] at A0
      have hld := run_ldS A0
      obtain ⟨w7, hst, XB, b7, z7⟩ := madeS w6 x w6.heap.size rfl
      obtain ⟨x0, x1, x2⟩ := XB.at
      have HO7 := hide (HI.out.1.later b7)
      have HAL := hide HI.out.2
      obtain ⟨m, Hm⟩ : ∃ m, Hid (acc.length = m) := ⟨_, rfl⟩
      rw [Hm.out]
      clear A0 XB b7 z7 HI
      go_wp2_with (at_builtin; refine (HO7.out.later (below_new w7 _)).appendS [⟨x.rep, x.lo⟩, ⟨x.rep, x.hi⟩, ⟨x.rep, wrap64 (x.lo - 1)⟩, ⟨x.rep, wrap64 (x.hi + 1)⟩] (some ⟨w7.heap.size, 0, none⟩) 4 4 (lit_rsrc w7 _ _ rfl 35 4 rfl (by omega)) (by have := HAL.out; omega) rfl (.tmp 32) (.tmp 55) rfl m Hm.out rfl rfl ?_; intro ao8 c8 w8 O8; have HO8 := hide O8; clear O8)
      go_roundw
      case rel => exact ⟨j + 1, ao8, c8, _, by omega, by rw [List.length_append, Hm.out]; rfl, by go_num, HO8.out, by rw [List.length_append, HAL.out]; simp only [List.length_cons, List.length_nil]; omega⟩
      case measure => simp [intOf]; omega
    · obtain rfl : j = a.cn := by omega
      obtain ⟨S9, _⟩ := HI.out.1.src (by have := HI.out.2; omega)
      have HS9 := hide S9
      have HB9 := hide (HBK.out.trans (HI.out.1.below.mono HBK.out.size))
      clear S9
      go_wp2_with fail
      go_ret
      exact ⟨_, _, _, _, rfl, HS9.out, HB9.out⟩
end Go.Proofs.Ytlnhafjpmkopgaa
