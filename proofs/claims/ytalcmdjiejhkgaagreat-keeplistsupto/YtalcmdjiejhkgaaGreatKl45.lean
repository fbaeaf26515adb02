/- HFr -/
import Derived.Test.YtalcmdjiejhkgaaGreatTk
import Derived.Test.YtalcmdjiejhkgaaGreatKl44
import Derived.Test.YtalcmdjiejhkgaaGreatKl40
import Derived.Test.YtalcmdjiejhkgaaGreatKl31
import Derived.Test.YtalcmdjiejhkgaaGreatKl35
import Derived.Test.YtalcmdjiejhkgaaGreatKl29
import Derived.Test.YtalcmdjiejhkgaaGreatKl28
import Derived.Test.YtalcmdjiejhkgaaGreatKl22
set_option maxRecDepth 100000
set_option maxHeartbeats 12800000
namespace Go.Proofs.YtalcmdjiejhkgaaGreat
open Go.RowKit Go.Maps Go.Sort
theorem empty_yesF : (nilF : ByteArray).toList.isEmpty = true := by rw [ByteArray.toList_eq]; rfl
theorem empty_noF {s : ByteArray} (h : s ≠ nilF) : s.toList.isEmpty = false := by
 rw [ByteArray.toList_eq, List.isEmpty_eq_false_iff]
 intro e
 refine h (nilF_of ?_)
 have : s.data.size = s.size := rfl
 have h2 : s.data.toList.length = 0 := by rw [e]; rfl
 simpa using h2
theorem canon_isP {C : Nat -> List Rn} {P : Pst} {M : Nat -> Int -> Prop} (h : CanonOf C P) (e : ∀ r, r < 16 -> ∀ n, mem (runsAt P r) n ↔ M r n) : IsP M P := ⟨C, h, fun r hr n => by rw [<- canon_mem h r hr n]; exact e r hr n⟩
def bsPo (a : Array (Nat × Value)) : Sem Value := Instr.buildSlice 59 1 a
theorem bsPo_eq (a : Array (Nat × Value)) : Instr.buildSlice 59 1 a = bsPo a := rfl
theorem run_bsPo (p : Pv) (w : World) : (bsPo #[(0, .agg (PC p))]).run Tryz.prog w = .ok (.slice (some ⟨w.heap.size, 0, none⟩) 1 1) (w.alloc (.cells (PC p) 27)) := by kernel_rfl
def bsRo (a : Array (Nat × Value)) : Sem Value := Instr.buildSlice 22 1 a
theorem bsRo_eq (a : Array (Nat × Value)) : Instr.buildSlice 22 1 a = bsRo a := rfl
theorem run_bsRo (r : Rc) (w : World) : (bsRo #[(0, .agg (ReC (mkR r)))]).run Tryz.prog w = .ok (.slice (some ⟨w.heap.size, 0, none⟩) 1 1) (w.alloc (.cells (ReC (mkR r)) 43)) := by kernel_rfl
structure RfM (w0 w1 : World) (g5 : Nat) (L : List Rc) (i : Nat) (T : List (List UInt8)) (h : Hs) (F : List Rc) (q : Pv) (wr : World) : Prop where
 own : OwnRc w1.heap.size w0 wr h F
 new : ∀ r ∈ F, PNew w1.heap.size r.p
 box : PBox wr g5 q
 src : PSrc wr q
 qn : PNew w1.heap.size q
 inv : RfI L i T F q.P
 num : h.n <= i
 far : FarH h q
theorem RfM.later {w0 w1 wr W : World} {g5 : Nat} {L : List Rc} {i : Nat} {T : List (List UInt8)} {h : Hs} {F : List Rc} {q : Pv} (M : RfM w0 w1 g5 L i T h F q wr) (hb : Below wr.heap.size wr W) : RfM w0 w1 g5 L i T h F q W :=
 ⟨M.own.later hb, M.new, M.box.below hb, M.src.below hb, M.qn, M.inv, M.num, M.far⟩
attribute [local go_sem ↓] ldP_eq stP_eq ldRe_eq stRe_eq bsPo_eq run_bsPo bldR_eq run_bldRp bsRo_eq run_bsRo
attribute [local go_sem] cells_PV PC_size zero_PC cells_ReV ReC_size
theorem refFold_any (ao : Option Addr) (n cap : Nat) (L : List Rc) (w : World) (hS : RcS w ao n cap L) (hwt : ∀ s, wt (ofS L s) <= 8796093022207) :
  Calls Tryz.prog 12 #[.slice ao n cap] w fun x w' => FoA w w' x L n := by
 have HS := hide hS
 have HLn : Hid (L.length = n) := hS.len
 have hbig := hS.big
 have HWt := hide hwt
 clear hS hwt
 go_enter Tryz.func12, Tryz.ntmps12
 go_wp2_with fail
 refine (refChkR_any ao n cap L _ HS.out).mono ?_
 rintro x w0 ⟨z, rfl, hz, b0⟩
 have HB0 := hide b0
 clear b0
 rcases hz with ⟨rfl, hO⟩ | ⟨rfl, hO⟩
 rotate_left
 ·have HE : Hid (FoA w w0 (.returned (.tuple #[.slice none 0 0, .int .i64 1])) L n) := .inr ⟨hO, rfl, HB0.out⟩
  clear hO
  go_wp2_with fail
  go_ret2
  exact HE.out
 have HO := hide hO
 have HOL := hide (okR_iff.1 (by rw [HLn.out]; exact hO) : (∀ r ∈ L, RecOk r) /\ Srt ck (plR L))
 clear hO
 have b1 := below_new w0 (.cells (PC pv0) 27)
 have x1 := pbox_new w0 pv0
 have s1 := World.size_alloc w0 (.cells (PC pv0) 27)
 obtain ⟨w1, hw1⟩ : ∃ w1, w0.alloc (.cells (PC pv0) 27) = w1 := ⟨_, rfl⟩
 obtain ⟨g5, hg5⟩ : ∃ g, w0.heap.size = g := ⟨_, rfl⟩
 rw [hw1] at b1 x1 s1
 rw [hg5] at x1
 have HG : Hid (w0.heap.size = g5 /\ w1.heap.size = g5 + 1) := ⟨hg5, by rw [s1, hg5]⟩
 have HM0 : Hid (RfM w0 w1 g5 L 0 [] hs0 [] pv0 w1) := ⟨⟨World.ownsRow_nil _ _ _ _, fun p h => (by cases h), b1, b1.size, Nat.le_refl _⟩, fun r h => (by cases h), x1, PSrc.zero w1, ⟨fun ad h => (by cases h), fun ad h => (by cases h)⟩, RfI.start L, Nat.zero_le _, fun k h => (by cases h)⟩
 clear b1 x1 s1
 go_wp2_with fail
 clear hw1 hg5
 go_loopw [4, 6, 7, 8, 9] (fun v i _ _ _ wr => ∃ (k : Nat) (T : List (List UInt8)) (h : Hs) (F : List Rc) (q : Pv), k <= n /\ v = .slice h.o h.n h.c /\ i = .int .i64 (k : Int) /\ Hid (RfM w0 w1 g5 L k T h F q wr)) (fun _ i _ _ _ _ => n - (intOf i).toNat)
 case atStart => exact ⟨0, [], hs0, [], pv0, Nat.zero_le _, rfl, rfl, HM0.out⟩
 case round =>
  obtain ⟨i, T, h, F, q, hin, rfl, rfl, HM⟩ := hrel
  rename World => wr
  have HSr := hide (HS.out.below (HB0.out.trans (HM.out.own.below.mono HB0.out.size)))
  by_cases hlt : i < n
  ·have hlti : (i : Int) < (n : Int) := by omega
   obtain ⟨ad, hao, A0⟩ := HSr.out.at i hlt
   obtain ⟨ri, Hri⟩ : ∃ r, Hid (L.getD i rc0 = r) := ⟨_, rfl⟩
   obtain ⟨b1, o1, rfl⟩ : ∃ b1 o1, ad = ⟨b1, o1, none⟩ := by
    have h := HSr.out
    rw [hao] at h
    exact h.spot (by omega)
   subst hao
   have Hlt := hide hlt
   have HAt : Hid (∀ W, Below w0.heap.size w0 W -> ∀ k, k < n -> ReAt W ⟨b1, o1 + k * 3, none⟩ (mkR (L.getD k rc0)) /\ RcOk W (L.getD k rc0)) := fun W hW k hk => by
    have h1 := HS.out.below (HB0.out.trans (hW.mono HB0.out.size))
    have h2 := h1.at_ _ rfl k hk
    rw [Addr.add_lit] at h2
    exact ⟨h2, h1.okAt k hk⟩
   have HBr := hide HM.out.own.below
   clear A0 hlt hin
   go_wp2_with fail
   go_loopw [7, 8] (fun v j wq => ∃ (j' : Nat) (g : Hs), i <= j' /\ j' <= n /\ v = .slice g.o g.n g.c /\ j = .int .i64 (j' : Int) /\ Hid (OwnP wr.heap.size wr wq g ((seg L i j').map (fun r => r.p)) /\ (∀ p ∈ (seg L i j').map (fun r => r.p), FarH g p) /\ (∀ k, i <= k -> k < j' -> (L.getD k rc0).s = ri.s) /\ g.n = j' - i)) (fun _ j _ => n - (intOf j).toNat)
   case atStart => exact ⟨i, hs0, Nat.le_refl _, by have := Hlt.out; omega, rfl, rfl, by rw [seg_self]; exact OwnP.nil wr, fun p hp => (by rw [seg_self] at hp; cases hp), fun k h1 h2 => by omega, by show 0 = i - i; omega⟩
   case round =>
    obtain ⟨j, g, hij, hjn, rfl, rfl, HI⟩ := hrel
    rename World => wq
    have HBq := hide (HBr.out.trans (HI.out.1.below.mono HBr.out.size))
    by_cases hjl : j < n
    ·have hjli : (j : Int) < (n : Int) := by omega
     obtain ⟨rj, Hrj⟩ : ∃ r, Hid (L.getD j rc0 = r) := ⟨_, rfl⟩
     have HSt : Hid (∀ W, Below w0.heap.size w0 W -> W.cell? ⟨b1, o1 + j * 3, none⟩ = some (.string rj.s) /\ W.cell? ⟨b1, o1 + i * 3, none⟩ = some (.string ri.s)) := fun W hW => by
      have h1 := (HAt.out W hW j hjl).1.flat.1
      have h2 := (HAt.out W hW i Hlt.out).1.flat.1
      rw [Hrj.out] at h1
      rw [Hri.out] at h2
      exact ⟨h1, h2⟩
     have hiti : (i : Int) < (n : Int) := by have := Hlt.out; omega
     have HBd := hide (HBq.out.trans ((below_drew1 wq).mono HBq.out.size))
     have Hjl := hide hjl
     have Hij := hide hij
     by_cases hs : rj.s = ri.s
     ·have hsb : (rj.s.toList == ri.s.toList) = true := by rw [hs]; exact sku_refl _
      have Hs := hide hs
      clear hs hjl
      go_upto_region 9 with fail
      refine wp_region_held_drew (S := fun W => W.cell? ⟨b1, o1 + j * 3, none⟩ = some (.string rj.s) /\ W.cell? ⟨b1, o1 + i * 3, none⟩ = some (.string ri.s)) (by kernel_rfl) (HSt.out _ (HBd.out)) (fun hHeld => ?_)
      refine wTk 0 ⟨some 18, .move (.tmp 8), 3, "ref.go:179", #[], none⟩ rfl ?_
      refine wTk 1 ⟨some 19, .move (.tmp 0), 22, "ref.go:179", #[], none⟩ rfl ?_
      refine wTk 2 ⟨some 20, .call ⟨.builtin .len, #[.tmp 19], #[22]⟩, 3, "ref.go:179", #[⟨1, .data⟩], none⟩ rfl ?_
      refine wTk 3 ⟨some 21, .binOp .lss 3 (.tmp 18) (.tmp 20) 3, 4, "ref.go:179", #[⟨0, .data⟩, ⟨2, .data⟩], none⟩ rfl ?_
      refine wTk 4 ⟨some 22, .move (.tmp 21), 4, "ref.go:179", #[⟨3, .data⟩], none⟩ rfl ?_
      refine wTk 5 ⟨some 23, .move (.tmp 0), 22, "ref.go:179", #[⟨4, .guard⟩], some (4, true)⟩ rfl ?_
      refine wTk 6 ⟨some 24, .move (.tmp 8), 3, "ref.go:179", #[⟨4, .guard⟩], some (4, true)⟩ rfl ?_
      refine wTk 7 ⟨some 25, .indexAddr 22 (.tmp 23) (.tmp 24), 0, "ref.go:179", #[⟨5, .data⟩, ⟨6, .data⟩, ⟨4, .guard⟩], some (4, true)⟩ rfl ?_
      refine wTk 8 ⟨some 26, .fieldAddr 43 (.tmp 25) 0, 0, "ref.go:179", #[⟨7, .data⟩, ⟨4, .guard⟩], some (4, true)⟩ rfl ?_
      refine wTk 9 ⟨some 27, .load 9 (.tmp 26), 9, "ref.go:179", #[⟨8, .data⟩, ⟨4, .guard⟩], some (4, true)⟩ rfl ?_
      refine wTk 10 ⟨some 28, .move (.tmp 0), 22, "ref.go:179", #[⟨4, .guard⟩], some (4, true)⟩ rfl ?_
      refine wTk 11 ⟨some 29, .move (.tmp 6), 3, "ref.go:179", #[⟨4, .guard⟩], some (4, true)⟩ rfl ?_
      refine wTk 12 ⟨some 30, .indexAddr 22 (.tmp 28) (.tmp 29), 0, "ref.go:179", #[⟨10, .data⟩, ⟨11, .data⟩, ⟨4, .guard⟩], some (4, true)⟩ rfl ?_
      refine wTk 13 ⟨some 31, .fieldAddr 43 (.tmp 30) 0, 0, "ref.go:179", #[⟨12, .data⟩, ⟨4, .guard⟩], some (4, true)⟩ rfl ?_
      refine wTk 14 ⟨some 32, .load 9 (.tmp 31), 9, "ref.go:179", #[⟨13, .data⟩, ⟨4, .guard⟩], some (4, true)⟩ rfl ?_
      refine wTk 15 ⟨some 33, .binOp .eql 9 (.tmp 27) (.tmp 32) 9, 4, "ref.go:179", #[⟨9, .data⟩, ⟨14, .data⟩, ⟨4, .guard⟩], some (4, true)⟩ rfl ?_
      refine wTk 16 ⟨some 34, .pick (.tmp 22) (.tmp 33) (.const (.bool false)), 4, "ref.go:179", #[⟨4, .data⟩, ⟨15, .data⟩], none⟩ rfl ?_
      refine wpAnyH_done (by kernel_rfl) ?_ _
      clear hHeld
      have lp := run_ldP (HAt.out _ HBd.out j Hjl.out).1.flat.2
      rw [Hrj.out] at lp
      have hpj := (HAt.out _ HBd.out j Hjl.out).2.1
      have hpo := (HAt.out wr HBr.out j Hjl.out).2.1
      rw [Hrj.out] at hpj hpo
      have O1 := HI.out.1.later (below_drew1 wq)
      obtain ⟨ga, ca, wa, hab, Oa, hfa, -⟩ := O1.app HI.out.2.1 rj.p hpj (fun x hx => PFar.old hpo (HI.out.1.own.lt x hx).1) (by have := HI.out.2.2.2; have := Hjl.out; omega)
      have HAb : Hid ((Builtin.append_ #[59, 59] 59 #[.slice g.o g.n g.c, .slice (some ⟨wq.drew.heap.size, 0, none⟩) 1 1]).run Tryz.prog (wq.drew.alloc (.cells (PC rj.p) 27)) = .ok (.slice (some ⟨ga, 0, none⟩) (g.n + 1) ca) wa) := hab
      have HN : Hid (OwnP wr.heap.size wr wa ⟨some ⟨ga, 0, none⟩, g.n + 1, ca⟩ ((seg L i (j + 1)).map (fun r => r.p)) /\ (∀ p ∈ (seg L i (j + 1)).map (fun r => r.p), FarH ⟨some ⟨ga, 0, none⟩, g.n + 1, ca⟩ p) /\ (∀ k, i <= k -> k < j + 1 -> (L.getD k rc0).s = ri.s) /\ g.n + 1 = j + 1 - i) := by
       rw [seg_snoc Hij.out (by rw [HLn.out]; exact Hjl.out), List.map_append, Hrj.out]
       refine ⟨Oa, hfa, fun k h1 h2 => ?_, by have := HI.out.2.2.2; have := Hij.out; omega⟩
       by_cases e : k = j
       ·rw [e, Hrj.out]; exact Hs.out
       ·exact HI.out.2.2.1 k h1 (by omega)
      clear hpj hpo O1 hab Oa hfa
      obtain ⟨u0, hu0⟩ : ∃ u, wq.drew = u := ⟨_, rfl⟩
      rw [hu0] at lp HAb
      rw [hu0]
      clear hu0
      go_wp2_with (at_builtin; refine seq_appM rfl (.tmp 35) (.tmp 41) rfl rfl rfl HAb.out ?_)
      clear lp
      go_roundw
      case rel => exact ⟨j + 1, ⟨some ⟨ga, 0, none⟩, g.n + 1, ca⟩, by have := Hij.out; omega, Hjl.out, rfl, by simp, HN.out⟩
      case measure => simp [intOf]; have := Hjl.out; omega
     ·have hsb : (rj.s.toList == ri.s.toList) = false := by rw [beq_eq_false_iff_ne]; exact fun h => hs (list_ext h)
      have HEnd : Hid (j < L.length -> (L.getD j rc0).s ≠ ri.s) := fun _ => by rw [Hrj.out]; exact hs
      have HII : Hid (i < j) := by
       rcases Nat.lt_or_ge i j with q1 | q1
       ·exact q1
       ·exfalso
        obtain rfl : i = j := by omega
        exact hs (by rw [<- Hrj.out, Hri.out])
      clear hs hjl
      go_upto_region 9 with fail
      refine wp_region_held_drew (S := fun W => W.cell? ⟨b1, o1 + j * 3, none⟩ = some (.string rj.s) /\ W.cell? ⟨b1, o1 + i * 3, none⟩ = some (.string ri.s)) (by kernel_rfl) (HSt.out _ (HBd.out)) (fun hHeld => ?_)
      refine wTk 0 ⟨some 18, .move (.tmp 8), 3, "ref.go:179", #[], none⟩ rfl ?_
      refine wTk 1 ⟨some 19, .move (.tmp 0), 22, "ref.go:179", #[], none⟩ rfl ?_
      refine wTk 2 ⟨some 20, .call ⟨.builtin .len, #[.tmp 19], #[22]⟩, 3, "ref.go:179", #[⟨1, .data⟩], none⟩ rfl ?_
      refine wTk 3 ⟨some 21, .binOp .lss 3 (.tmp 18) (.tmp 20) 3, 4, "ref.go:179", #[⟨0, .data⟩, ⟨2, .data⟩], none⟩ rfl ?_
      refine wTk 4 ⟨some 22, .move (.tmp 21), 4, "ref.go:179", #[⟨3, .data⟩], none⟩ rfl ?_
      refine wTk 5 ⟨some 23, .move (.tmp 0), 22, "ref.go:179", #[⟨4, .guard⟩], some (4, true)⟩ rfl ?_
      refine wTk 6 ⟨some 24, .move (.tmp 8), 3, "ref.go:179", #[⟨4, .guard⟩], some (4, true)⟩ rfl ?_
      refine wTk 7 ⟨some 25, .indexAddr 22 (.tmp 23) (.tmp 24), 0, "ref.go:179", #[⟨5, .data⟩, ⟨6, .data⟩, ⟨4, .guard⟩], some (4, true)⟩ rfl ?_
      refine wTk 8 ⟨some 26, .fieldAddr 43 (.tmp 25) 0, 0, "ref.go:179", #[⟨7, .data⟩, ⟨4, .guard⟩], some (4, true)⟩ rfl ?_
      refine wTk 9 ⟨some 27, .load 9 (.tmp 26), 9, "ref.go:179", #[⟨8, .data⟩, ⟨4, .guard⟩], some (4, true)⟩ rfl ?_
      refine wTk 10 ⟨some 28, .move (.tmp 0), 22, "ref.go:179", #[⟨4, .guard⟩], some (4, true)⟩ rfl ?_
      refine wTk 11 ⟨some 29, .move (.tmp 6), 3, "ref.go:179", #[⟨4, .guard⟩], some (4, true)⟩ rfl ?_
      refine wTk 12 ⟨some 30, .indexAddr 22 (.tmp 28) (.tmp 29), 0, "ref.go:179", #[⟨10, .data⟩, ⟨11, .data⟩, ⟨4, .guard⟩], some (4, true)⟩ rfl ?_
      refine wTk 13 ⟨some 31, .fieldAddr 43 (.tmp 30) 0, 0, "ref.go:179", #[⟨12, .data⟩, ⟨4, .guard⟩], some (4, true)⟩ rfl ?_
      refine wTk 14 ⟨some 32, .load 9 (.tmp 31), 9, "ref.go:179", #[⟨13, .data⟩, ⟨4, .guard⟩], some (4, true)⟩ rfl ?_
      refine wTk 15 ⟨some 33, .binOp .eql 9 (.tmp 27) (.tmp 32) 9, 4, "ref.go:179", #[⟨9, .data⟩, ⟨14, .data⟩, ⟨4, .guard⟩], some (4, true)⟩ rfl ?_
      refine wTk 16 ⟨some 34, .pick (.tmp 22) (.tmp 33) (.const (.bool false)), 4, "ref.go:179", #[⟨4, .data⟩, ⟨15, .data⟩], none⟩ rfl ?_
      refine wpAnyH_done (by kernel_rfl) ?_ _
      clear hHeld
      have HIq := hide (HI.out.1.later (below_drew1 wq))
      obtain ⟨u0, hu0⟩ : ∃ u, wq.drew = u := ⟨_, rfl⟩
      rw [hu0] at HIq
      rw [hu0]
      clear hu0 hsb
      have HJn : Hid (j <= L.length) := by show j <= L.length; rw [HLn.out]; have := Hjl.out; omega
      have HWx : Hid (wt ((seg L i j).map (fun r => r.p)) <= 8796093022207) := Nat.le_trans (wt_seg (s := ri.s) (fun x hx => by
       obtain ⟨k, h1, h2, rfl⟩ := (seg_mem (Nat.le_of_lt HII.out) HJn.out).1 hx
       exact HI.out.2.2.1 k h1 h2)) (HWt.out _)
      have HGk : Hid (∀ k, i <= k -> k < j -> (L.getD k rc0).s = (L.getD i rc0).s) := fun k h1 h2 => by rw [Hri.out]; exact HI.out.2.2.1 k h1 h2
      have HEn : Hid (j < L.length -> (L.getD j rc0).s ≠ (L.getD i rc0).s) := fun h => by rw [Hri.out]; exact HEnd.out h
      have hgn : g.n <= 8796093022207 := by have := HI.out.2.2.2; omega
      go_wp2_with fail
      refine (refJoin_any g.o g.n g.c _ _ HIq.out.row HWx.out hgn).mono ?_
      rintro e w3 ⟨p, rfl, Sp, Np, b3, Cp⟩
      have HGp := hide (grp_next HOL.out.2 HM.out.inv.bnd HII.out HJn.out HGk.out HEn.out)
      have HPm : Hid (∀ r, r < 16 -> ∀ n, mem (runsAt p.P r) n ↔ ∃ x ∈ L, x.s = (L.getD i rc0).s /\ mem (runsAt x.p.P r) n) := fun r hr n => grp_past HII.out HJn.out HGp.out.2 Cp hr
      obtain ⟨g9, hg9⟩ : ∃ g, w3.heap.size = g := ⟨_, rfl⟩
      obtain ⟨w4, hst, X4, B4, -⟩ := madeP w3 p g9 hg9
      have hwg : wr.heap.size <= g9 := by
       have h1 := HIq.out.below.size
       have h2 := b3.size
       omega
      have HSet : Hid (∀ (W : World) (y : Pv), OwnRc w1.heap.size w0 W h F -> OwnRc w1.heap.size w0 (W.setRow g9 (PC y)) h F) := fun W y O => O.setOther g9 _ (by have h1 := HM.out.own.below.size; omega) (fun e => by have := (HM.out.own.own.lt _ e).2; omega) (fun r hr => PFar.old (HM.out.own.ok r hr).1.1 hwg)
      have HSq : Hid (∀ (W : World) (y : Pv), PSrc W q -> PSrc (W.setRow g9 (PC y)) q) := fun W y O => O.far (PFar.old HM.out.src hwg) (fun k hk => setRow_other _ _ _ _ hk)
      have HFp : Hid (FarH h p) := fun k hk => PFar.new Np (by have := (HM.out.own.own.lt _ hk).2; have := HIq.out.below.size; omega)
      have HW9 := hide hwg
      have HWr : Hid (g9 < w4.heap.size) := X4.lt
      clear hwg
      have HM4 := hide (HM.out.later (HIq.out.below.trans ((b3.trans (B4.mono b3.size)).mono HIq.out.below.size)))
      have HX4 : Hid (PBox w4 g9 p /\ PSrc w4 p /\ PNew w1.heap.size p /\ w1.heap.size <= g9) := ⟨X4, Sp.below B4, Np.mono (Nat.le_trans HM.out.own.hB.2 HIq.out.below.size), by rw [<- hg9]; exact Nat.le_trans HM.out.own.hB.2 (Nat.le_trans HIq.out.below.size b3.size)⟩
      have HCp : Hid (∃ C, CanonOf C p.P) := ⟨_, Cp⟩
      have hci := (HAt.out _ HM4.out.own.below i Hlt.out).1.flat.1
      rw [Hri.out] at hci
      have hiti : (i : Int) < (n : Int) := by have := Hlt.out; omega
      clear Sp Np b3 Cp X4 B4
      by_cases hnil : ri.s = nilF
      ·have hse : ri.s.toList.isEmpty = true := by rw [hnil]; exact empty_yesF
       have l9 := run_ldP HX4.out.1.at
       have st5 := run_stP (p' := p) HM4.out.box
       have HL0 : Hid ((L.getD i rc0).s = nilF) := by rw [Hri.out]; exact hnil
       have hs1 := HG.out
       have HM5 : Hid (OwnRc w1.heap.size w0 (w4.setRow g5 (PC p)) h F /\ PBox (w4.setRow g5 (PC p)) g5 p /\ PBox (w4.setRow g5 (PC p)) g9 p /\ PSrc (w4.setRow g5 (PC p)) p) := ⟨HM4.out.own.setOther g5 _ (by omega) (fun e => by have := (HM4.out.own.own.lt _ e).1; omega) (fun r hr => PFar.new (HM4.out.new r hr) (by omega)), setRow_heap _ _ _ _ _ _ HM4.out.box, (setRow_other _ _ _ _ (by have := HX4.out.2.2.2; omega)).trans HX4.out.1, psrc_off HX4.out.2.1 (fun ad e => setRow_other _ _ _ _ (by have := HX4.out.2.2.1.1 ad e; omega)) (fun ad e => setRow_other _ _ _ _ (by have := HX4.out.2.2.1.2 ad e; omega))⟩
       obtain ⟨w5, hw5⟩ : ∃ w5, w4.setRow g5 (PC p) = w5 := ⟨_, rfl⟩
       rw [hw5] at st5 HM5
       have l5 := run_ldP HM5.out.2.2.1.at
       have HAll := hide (AllP.nil HJn.out HII.out HL0.out HGp.out.2 HPm.out)
       have HFm : Hid (∀ r, r < 16 -> ∀ n, mem (runsAt p.P r) n ↔ FoldM L (L.getD i rc0).s r n) := fun r hr n => by rw [HPm.out r hr n, HL0.out, foldM_nil]
       clear hs1 hnil
       go_wp2_with fail
       clear hst hg9 hci hse l9 st5 hw5 l5
       refine (refEmpty_any p _ HM5.out.2.2.2).mono ?_
       rintro e w8 ⟨b, rfl, hb, b8⟩
       have HM8 : Hid (OwnRc w1.heap.size w0 w8 h F /\ PBox w8 g5 p /\ PBox w8 g9 p /\ PSrc w8 p /\ PSrc w8 p) := ⟨HM5.out.1.later b8, HM5.out.2.1.below b8, HM5.out.2.2.1.below b8, HM5.out.2.2.2.below b8, HM5.out.2.2.2.below b8⟩
       clear b8
       cases b with
       | true =>
        have HN : Hid (RfM w0 w1 g5 L j (T ++ [(L.getD i rc0).s.data.toList]) h F p w8) := ⟨HM8.out.1, HM.out.new, HM8.out.2.1, HM8.out.2.2.2.2, HX4.out.2.2.1, HM.out.inv.skip HOL.out.2 HII.out HJn.out HGk.out HEn.out HAll.out (fun r hr n k => hb.1 rfl r hr n ((HFm.out r hr n).2 k)), by have := HM.out.num; have := HII.out; omega, HFp.out⟩
        clear hb
        go_wp2_with fail
        go_roundw
        case rel => exact ⟨j, _, h, F, p, by have := HJn.out; have := HLn.out; omega, rfl, rfl, HN.out⟩
        case measure => simp [intOf]; have := HII.out; have := HJn.out; have := HLn.out; omega
       | false =>
        have HNe : Hid (¬ EmptyP p.P) := fun k => by have := hb.2 k; cases this
        have HSt : Hid (∀ W, Below w0.heap.size w0 W -> PBox W g9 p -> W.cell? ⟨b1, o1 + i * 3, none⟩ = some (.string ri.s) /\ (ldP (.pointer (some ⟨g9, 0, none⟩))).run Tryz.prog W = .ok (PV p) W) := fun W hW hX => by
         have h1 := (HAt.out W hW i Hlt.out).1.flat.1
         rw [Hri.out] at h1
         exact ⟨h1, run_ldP hX.at⟩
        have HSz : Hid (ri.s.size <= maxLen) := by
         have h1 := (HAt.out w8 HM8.out.1.below i Hlt.out).2.2
         rw [Hri.out] at h1
         exact h1
        clear hb
        have hiti : (i : Int) < (n : Int) := by have := Hlt.out; omega
        have O8 := HM8.out.1.later (below_drew1 w8)
        have X8 := HM8.out.2.2.1.below (below_drew1 w8)
        have x8 := HM8.out.2.1.below (below_drew1 w8)
        obtain ⟨gb, cb, wb, hab, Ob, hkb, hgb, hsb⟩ := O8.appAt ⟨ri.s, p⟩ ⟨HM8.out.2.2.2.1.below (below_drew1 w8), HSz.out⟩ HFp.out (by have := HM.out.num; have := Hlt.out; have := hbig; omega)
        have HAb : Hid ((Builtin.append_ #[22, 22] 22 #[.slice h.o h.n h.c, .slice (some ⟨w8.drew.heap.size, 0, none⟩) 1 1]).run Tryz.prog (w8.drew.alloc (.cells (ReC (mkR ⟨ri.s, p⟩)) 43)) = .ok (.slice (some ⟨gb, 0, none⟩) (h.n + 1) cb) wb) := hab
        have hown : ∀ k, (HsV h).ownBlock = some k -> w1.heap.size <= k /\ k < wr.heap.size := fun k e => HM.out.own.own.lt _ e
        have hwg9 := HW9.out
        have hs1 := HG.out
        have hq8 : PSrc w8.drew p := HM8.out.2.2.2.2.below (below_drew1 w8)
        have HN : Hid (RfM w0 w1 g5 L j (T ++ [(L.getD i rc0).s.data.toList]) ⟨some ⟨gb, 0, none⟩, h.n + 1, cb⟩ (F ++ [⟨ri.s, p⟩]) p wb /\ PBox wb g9 p) := by
         have hx9 : PBox wb g9 p := (hkb g9 X8.lt (fun e => by have := (hown _ e).2; omega)).trans X8
         refine ⟨⟨Ob, fun r hr => ?_, (hkb g5 x8.lt (fun e => by have := (hown _ e).1; omega)).trans x8, psrc_keep hq8 HFp.out (fun k hk hne => hkb k hk (fun e => hne e.symm)), HX4.out.2.2.1, ?_, by have := HM.out.num; have := HII.out; show h.n + 1 <= j; omega, fun k hk => ?_⟩, hx9⟩
         ·rcases List.mem_append.1 hr with hr | hr
          ·exact HM.out.new r hr
          ·obtain rfl : r = ⟨ri.s, p⟩ := by simpa using hr
           exact HX4.out.2.2.1
         ·refine HM.out.inv.add (x := ⟨ri.s, p⟩) HOL.out.2 HII.out HJn.out HGk.out HEn.out HAll.out (by rw [Hri.out]) ?_ HNe.out
          obtain ⟨C, hC⟩ := HCp.out
          refine canon_isP hC (fun r hr n => ?_)
          have h1 := HFm.out r hr n
          rw [Hri.out] at h1
          exact h1
         ·obtain rfl : gb = k := Option.some.inj hk
          rcases hgb with e | e
          ·exact HFp.out _ e
          ·exact PFar.old hq8 e
        clear O8 X8 x8 hab Ob hkb hgb hsb hown hwg9 hs1 hq8
        have HM9 : Hid (OwnRc w1.heap.size w0 w8.drew h F /\ PBox w8.drew g5 p /\ PBox w8.drew g9 p) := ⟨HM8.out.1.later (below_drew1 w8), HM8.out.2.1.below (below_drew1 w8), HM8.out.2.2.1.below (below_drew1 w8)⟩
        go_upto_region 17 with fail
        refine wp_region_held_drew (S := fun W => W.cell? ⟨b1, o1 + i * 3, none⟩ = some (.string ri.s) /\ (ldP (.pointer (some ⟨g9, 0, none⟩))).run Tryz.prog W = .ok (PV p) W) (by kernel_rfl) (HSt.out _ HM9.out.1.below HM9.out.2.2) (fun hHeld => ?_)
        refine wTk 0 ⟨some 60, .move (.tmp 4), 22, "ref.go:190", #[], none⟩ rfl ?_
        refine wTk 1 ⟨some 61, .move (.tmp 0), 22, "ref.go:190", #[], none⟩ rfl ?_
        refine wTk 2 ⟨some 62, .move (.tmp 6), 3, "ref.go:190", #[], none⟩ rfl ?_
        refine wTk 3 ⟨some 63, .indexAddr 22 (.tmp 61) (.tmp 62), 0, "ref.go:190", #[⟨1, .data⟩, ⟨2, .data⟩], none⟩ rfl ?_
        refine wTk 4 ⟨some 64, .fieldAddr 43 (.tmp 63) 0, 0, "ref.go:190", #[⟨3, .data⟩], none⟩ rfl ?_
        refine wTk 5 ⟨some 65, .load 9 (.tmp 64), 9, "ref.go:190", #[⟨4, .data⟩], none⟩ rfl ?_
        refine wTk 6 ⟨some 66, .load 27 (.tmp 9), 27, "ref.go:190", #[], none⟩ rfl ?_
        refine wTk 7 ⟨some 67, .build 43 #[(0, .tmp 65), (1, .tmp 66)], 43, "ref.go:190", #[⟨5, .data⟩, ⟨6, .data⟩], none⟩ rfl ?_
        obtain ⟨u9, hu9⟩ : ∃ u, w8.drew = u := ⟨_, rfl⟩
        rw [hu9] at HM9 HAb
        rw [hu9]
        clear hu9
        refine wpAnyH_ready (rs := [8]) (by kernel_rfl) (by simp) (.cons rfl (fun K hK => ?_) .nil)
        obtain ⟨u7, hu7⟩ : ∃ u, u9.alloc (.cells (ReC (mkR ⟨ri.s, p⟩)) 43) = u := ⟨_, rfl⟩
        have HB7 := hide (below_new u9 (.cells (ReC (mkR ⟨ri.s, p⟩)) 43))
        rw [hu7] at HB7
        go_simp
        refine hK.out _ _ (HSt.out _ (HM9.out.1.below.trans (HB7.out.mono HM9.out.1.below.size)) (HM9.out.2.2.below HB7.out)) (fun hHeld => ?_)
        clear hK K
        refine wpAnyH_ready (rs := [9]) (by kernel_rfl) (by simp) (.cons rfl (fun K hK => ?_) .nil)
        have HA7 := HAb.out
        rw [hu7] at HA7
        refine step_appM (by rfl) (.tmp 60) (.tmp 68) (by rfl) (by rfl) (by rfl) HA7 ?_
        refine hK.out _ _ (HSt.out _ HN.out.1.own.below HN.out.2) (fun hHeld => ?_)
        clear hK K
        clear HA7 hu7
        refine wTk 10 ⟨some 4, .assign (.tmp 69), 22, "ref.go:190", #[⟨9, .data⟩, ⟨9, .chain⟩, ⟨0, .phase⟩, ⟨1, .phase⟩, ⟨2, .phase⟩, ⟨3, .phase⟩, ⟨4, .phase⟩, ⟨5, .phase⟩, ⟨6, .phase⟩, ⟨7, .phase⟩, ⟨8, .phase⟩, ⟨9, .phase⟩], none⟩ rfl ?_
        refine wpAnyH_done (by kernel_rfl) ?_ _
        clear hHeld
        go_wp2_with fail
        go_roundw
        case rel => exact ⟨j, _, ⟨some ⟨gb, 0, none⟩, h.n + 1, cb⟩, _, p, by have := HJn.out; have := HLn.out; omega, rfl, rfl, HN.out.1⟩
        case measure => simp [intOf]; have := HII.out; have := HJn.out; have := HLn.out; omega
      ·have hse : ri.s.toList.isEmpty = false := empty_noF hnil
       have HLn0 : Hid ((L.getD i rc0).s ≠ nilF) := by rw [Hri.out]; exact hnil
       have l9 := run_ldP HX4.out.1.at
       have l5 := run_ldP HM4.out.box.at
       have HNn : Hid (∀ k, i <= k -> k < L.length -> (L.getD k rc0).s ≠ nilF) := fun k h1 h2 e => by
        by_cases e2 : k = i
        ·rw [e2] at e; exact HLn0.out e
        ·rcases srt_sku HOL.out.2 (show i < k by omega) h2 with h3 | h3
         ·rw [e] at h3; exact cmpS_nil _ h3
         ·rw [e] at h3; exact HLn0.out h3
       clear hnil
       go_wp2_with fail
       clear hst hg9 hci hse l9 l5
       refine (refMinus_any p q _ HX4.out.2.1 HM4.out.src).mono ?_
       rintro e w6 ⟨y, rfl, Sy, Ny, b6, C, hC1, hC2⟩
       have x6 := HX4.out.1.below b6
       have st9 := run_stP (p' := y) x6
       have hs1 := HG.out
       have hg9w := HX4.out.2.2.2
       have hlt9 := HX4.out.1.lt
       have M6 := HM4.out.later b6
       have HM5 : Hid (OwnRc w1.heap.size w0 (w6.setRow g9 (PC y)) h F /\ PBox (w6.setRow g9 (PC y)) g5 q /\ PBox (w6.setRow g9 (PC y)) g9 y /\ PSrc (w6.setRow g9 (PC y)) y /\ PSrc (w6.setRow g9 (PC y)) q /\ PNew w1.heap.size y) := ⟨HSet.out _ y M6.own, (setRow_other _ _ _ _ (by omega)).trans M6.box, setRow_heap _ _ _ _ _ _ x6, psrc_off Sy (fun ad e => setRow_other _ _ _ _ (by have := Ny.1 ad e; omega)) (fun ad e => setRow_other _ _ _ _ (by have := Ny.2 ad e; omega)), HSq.out _ y M6.src, Ny.mono (by have := M6.own.hB.2; have := HM4.out.own.hB.2; omega)⟩
       obtain ⟨w7, hw7⟩ : ∃ w7, w6.setRow g9 (PC y) = w7 := ⟨_, rfl⟩
       rw [hw7] at st9 HM5
       have l7 := run_ldP HM5.out.2.2.1.at
       have HAll := hide (HM.out.inv.all.next (Nat.le_of_lt HII.out) (fun k h1 h2 => HNn.out k h1 (by have := HJn.out; omega)))
       have HFm : Hid (∀ r, r < 16 -> ∀ n, mem (runsAt y.P r) n ↔ FoldM L (L.getD i rc0).s r n) := fun r hr n => by
        rw [canon_mem hC2 r hr n, (hC1 r hr).2 n, HPm.out r hr n, HM.out.inv.all.whole HNn.out hr, foldM_no HLn0.out]
       have HFy : Hid (FarH h y) := fun k hk => PFar.new Ny (by have := (HM.out.own.own.lt _ hk).2; have := HM4.out.own.hB.2; have h1 := HW9.out; have h3 := HWr.out; omega)
       have HCy : Hid (∃ C, CanonOf C y.P) := ⟨_, hC2⟩
       clear Sy Ny b6 hC1 hC2 C x6 hs1 hg9w hlt9 M6
       go_wp2_with fail
       clear st9 hw7 l7
       refine (refEmpty_any y _ HM5.out.2.2.2.1).mono ?_
       rintro e w8 ⟨b, rfl, hb, b8⟩
       have HM8 : Hid (OwnRc w1.heap.size w0 w8 h F /\ PBox w8 g5 q /\ PBox w8 g9 y /\ PSrc w8 y /\ PSrc w8 q) := ⟨HM5.out.1.later b8, HM5.out.2.1.below b8, HM5.out.2.2.1.below b8, HM5.out.2.2.2.1.below b8, HM5.out.2.2.2.2.1.below b8⟩
       clear b8
       cases b with
       | true =>
        have HN : Hid (RfM w0 w1 g5 L j (T ++ [(L.getD i rc0).s.data.toList]) h F q w8) := ⟨HM8.out.1, HM.out.new, HM8.out.2.1, HM8.out.2.2.2.2, HM.out.qn, HM.out.inv.skip HOL.out.2 HII.out HJn.out HGk.out HEn.out HAll.out (fun r hr n k => hb.1 rfl r hr n ((HFm.out r hr n).2 k)), by have := HM.out.num; have := HII.out; omega, HM.out.far⟩
        clear hb
        go_wp2_with fail
        go_roundw
        case rel => exact ⟨j, _, h, F, q, by have := HJn.out; have := HLn.out; omega, rfl, rfl, HN.out⟩
        case measure => simp [intOf]; have := HII.out; have := HJn.out; have := HLn.out; omega
       | false =>
        have HNe : Hid (¬ EmptyP y.P) := fun k => by have := hb.2 k; cases this
        have HSt : Hid (∀ W, Below w0.heap.size w0 W -> PBox W g9 y -> W.cell? ⟨b1, o1 + i * 3, none⟩ = some (.string ri.s) /\ (ldP (.pointer (some ⟨g9, 0, none⟩))).run Tryz.prog W = .ok (PV y) W) := fun W hW hX => by
         have h1 := (HAt.out W hW i Hlt.out).1.flat.1
         rw [Hri.out] at h1
         exact ⟨h1, run_ldP hX.at⟩
        have HSz : Hid (ri.s.size <= maxLen) := by
         have h1 := (HAt.out w8 HM8.out.1.below i Hlt.out).2.2
         rw [Hri.out] at h1
         exact h1
        clear hb
        have hiti : (i : Int) < (n : Int) := by have := Hlt.out; omega
        have O8 := HM8.out.1.later (below_drew1 w8)
        have X8 := HM8.out.2.2.1.below (below_drew1 w8)
        have x8 := HM8.out.2.1.below (below_drew1 w8)
        obtain ⟨gb, cb, wb, hab, Ob, hkb, hgb, hsb⟩ := O8.appAt ⟨ri.s, y⟩ ⟨HM8.out.2.2.2.1.below (below_drew1 w8), HSz.out⟩ HFy.out (by have := HM.out.num; have := Hlt.out; have := hbig; omega)
        have HAb : Hid ((Builtin.append_ #[22, 22] 22 #[.slice h.o h.n h.c, .slice (some ⟨w8.drew.heap.size, 0, none⟩) 1 1]).run Tryz.prog (w8.drew.alloc (.cells (ReC (mkR ⟨ri.s, y⟩)) 43)) = .ok (.slice (some ⟨gb, 0, none⟩) (h.n + 1) cb) wb) := hab
        have hown : ∀ k, (HsV h).ownBlock = some k -> w1.heap.size <= k /\ k < wr.heap.size := fun k e => HM.out.own.own.lt _ e
        have hwg9 := HW9.out
        have hs1 := HG.out
        have hq8 : PSrc w8.drew q := HM8.out.2.2.2.2.below (below_drew1 w8)
        have HN : Hid (RfM w0 w1 g5 L j (T ++ [(L.getD i rc0).s.data.toList]) ⟨some ⟨gb, 0, none⟩, h.n + 1, cb⟩ (F ++ [⟨ri.s, y⟩]) q wb /\ PBox wb g9 y) := by
         have hx9 : PBox wb g9 y := (hkb g9 X8.lt (fun e => by have := (hown _ e).2; omega)).trans X8
         refine ⟨⟨Ob, fun r hr => ?_, (hkb g5 x8.lt (fun e => by have := (hown _ e).1; omega)).trans x8, psrc_keep hq8 HM.out.far (fun k hk hne => hkb k hk (fun e => hne e.symm)), HM.out.qn, ?_, by have := HM.out.num; have := HII.out; show h.n + 1 <= j; omega, fun k hk => ?_⟩, hx9⟩
         ·rcases List.mem_append.1 hr with hr | hr
          ·exact HM.out.new r hr
          ·obtain rfl : r = ⟨ri.s, y⟩ := by simpa using hr
           exact HM5.out.2.2.2.2.2
         ·refine HM.out.inv.add (x := ⟨ri.s, y⟩) HOL.out.2 HII.out HJn.out HGk.out HEn.out HAll.out (by rw [Hri.out]) ?_ HNe.out
          obtain ⟨C, hC⟩ := HCy.out
          refine canon_isP hC (fun r hr n => ?_)
          have h1 := HFm.out r hr n
          rw [Hri.out] at h1
          exact h1
         ·obtain rfl : gb = k := Option.some.inj hk
          rcases hgb with e | e
          ·exact HM.out.far _ e
          ·exact PFar.old hq8 e
        clear O8 X8 x8 hab Ob hkb hgb hsb hown hwg9 hs1 hq8
        have HM9 : Hid (OwnRc w1.heap.size w0 w8.drew h F /\ PBox w8.drew g5 q /\ PBox w8.drew g9 y) := ⟨HM8.out.1.later (below_drew1 w8), HM8.out.2.1.below (below_drew1 w8), HM8.out.2.2.1.below (below_drew1 w8)⟩
        go_upto_region 17 with fail
        refine wp_region_held_drew (S := fun W => W.cell? ⟨b1, o1 + i * 3, none⟩ = some (.string ri.s) /\ (ldP (.pointer (some ⟨g9, 0, none⟩))).run Tryz.prog W = .ok (PV y) W) (by kernel_rfl) (HSt.out _ HM9.out.1.below HM9.out.2.2) (fun hHeld => ?_)
        refine wTk 0 ⟨some 60, .move (.tmp 4), 22, "ref.go:190", #[], none⟩ rfl ?_
        refine wTk 1 ⟨some 61, .move (.tmp 0), 22, "ref.go:190", #[], none⟩ rfl ?_
        refine wTk 2 ⟨some 62, .move (.tmp 6), 3, "ref.go:190", #[], none⟩ rfl ?_
        refine wTk 3 ⟨some 63, .indexAddr 22 (.tmp 61) (.tmp 62), 0, "ref.go:190", #[⟨1, .data⟩, ⟨2, .data⟩], none⟩ rfl ?_
        refine wTk 4 ⟨some 64, .fieldAddr 43 (.tmp 63) 0, 0, "ref.go:190", #[⟨3, .data⟩], none⟩ rfl ?_
        refine wTk 5 ⟨some 65, .load 9 (.tmp 64), 9, "ref.go:190", #[⟨4, .data⟩], none⟩ rfl ?_
        refine wTk 6 ⟨some 66, .load 27 (.tmp 9), 27, "ref.go:190", #[], none⟩ rfl ?_
        refine wTk 7 ⟨some 67, .build 43 #[(0, .tmp 65), (1, .tmp 66)], 43, "ref.go:190", #[⟨5, .data⟩, ⟨6, .data⟩], none⟩ rfl ?_
        obtain ⟨u9, hu9⟩ : ∃ u, w8.drew = u := ⟨_, rfl⟩
        rw [hu9] at HM9 HAb
        rw [hu9]
        clear hu9
        refine wpAnyH_ready (rs := [8]) (by kernel_rfl) (by simp) (.cons rfl (fun K hK => ?_) .nil)
        obtain ⟨u7, hu7⟩ : ∃ u, u9.alloc (.cells (ReC (mkR ⟨ri.s, y⟩)) 43) = u := ⟨_, rfl⟩
        have HB7 := hide (below_new u9 (.cells (ReC (mkR ⟨ri.s, y⟩)) 43))
        rw [hu7] at HB7
        go_simp
        refine hK.out _ _ (HSt.out _ (HM9.out.1.below.trans (HB7.out.mono HM9.out.1.below.size)) (HM9.out.2.2.below HB7.out)) (fun hHeld => ?_)
        clear hK K
        refine wpAnyH_ready (rs := [9]) (by kernel_rfl) (by simp) (.cons rfl (fun K hK => ?_) .nil)
        have HA7 := HAb.out
        rw [hu7] at HA7
        refine step_appM (by rfl) (.tmp 60) (.tmp 68) (by rfl) (by rfl) (by rfl) HA7 ?_
        refine hK.out _ _ (HSt.out _ HN.out.1.own.below HN.out.2) (fun hHeld => ?_)
        clear hK K
        clear HA7 hu7
        refine wTk 10 ⟨some 4, .assign (.tmp 69), 22, "ref.go:190", #[⟨9, .data⟩, ⟨9, .chain⟩, ⟨0, .phase⟩, ⟨1, .phase⟩, ⟨2, .phase⟩, ⟨3, .phase⟩, ⟨4, .phase⟩, ⟨5, .phase⟩, ⟨6, .phase⟩, ⟨7, .phase⟩, ⟨8, .phase⟩, ⟨9, .phase⟩], none⟩ rfl ?_
        refine wpAnyH_done (by kernel_rfl) ?_ _
        clear hHeld
        go_wp2_with fail
        go_roundw
        case rel => exact ⟨j, _, ⟨some ⟨gb, 0, none⟩, h.n + 1, cb⟩, _, q, by have := HJn.out; have := HLn.out; omega, rfl, rfl, HN.out.1⟩
        case measure => simp [intOf]; have := HII.out; have := HJn.out; have := HLn.out; omega
    ·have hjli : ¬ (j : Int) < (n : Int) := by omega
     obtain rfl : j = n := by omega
     have HEnd : Hid (j < L.length -> (L.getD j rc0).s ≠ ri.s) := fun h => by rw [HLn.out] at h; omega
     have HII : Hid (i < j) := Hlt.out
     have Hjl : Hid (j <= j) := Nat.le_refl _
     clear hjl
     go_upto_region 9 with fail
     refine wp_region_held_drew (S := fun _ => True) (by kernel_rfl) (trivial) (fun hHeld => ?_)
     refine wTk 0 ⟨some 18, .move (.tmp 8), 3, "ref.go:179", #[], none⟩ rfl ?_
     refine wTk 1 ⟨some 19, .move (.tmp 0), 22, "ref.go:179", #[], none⟩ rfl ?_
     refine wTk 2 ⟨some 20, .call ⟨.builtin .len, #[.tmp 19], #[22]⟩, 3, "ref.go:179", #[⟨1, .data⟩], none⟩ rfl ?_
     refine wTk 3 ⟨some 21, .binOp .lss 3 (.tmp 18) (.tmp 20) 3, 4, "ref.go:179", #[⟨0, .data⟩, ⟨2, .data⟩], none⟩ rfl ?_
     refine wTk 4 ⟨some 22, .move (.tmp 21), 4, "ref.go:179", #[⟨3, .data⟩], none⟩ rfl ?_
     refine wSk 5 ⟨some 23, .move (.tmp 0), 22, "ref.go:179", #[⟨4, .guard⟩], some (4, true)⟩ rfl ?_
     refine wSk 6 ⟨some 24, .move (.tmp 8), 3, "ref.go:179", #[⟨4, .guard⟩], some (4, true)⟩ rfl ?_
     refine wSk 7 ⟨some 25, .indexAddr 22 (.tmp 23) (.tmp 24), 0, "ref.go:179", #[⟨5, .data⟩, ⟨6, .data⟩, ⟨4, .guard⟩], some (4, true)⟩ rfl ?_
     refine wSk 8 ⟨some 26, .fieldAddr 43 (.tmp 25) 0, 0, "ref.go:179", #[⟨7, .data⟩, ⟨4, .guard⟩], some (4, true)⟩ rfl ?_
     refine wSk 9 ⟨some 27, .load 9 (.tmp 26), 9, "ref.go:179", #[⟨8, .data⟩, ⟨4, .guard⟩], some (4, true)⟩ rfl ?_
     refine wSk 10 ⟨some 28, .move (.tmp 0), 22, "ref.go:179", #[⟨4, .guard⟩], some (4, true)⟩ rfl ?_
     refine wSk 11 ⟨some 29, .move (.tmp 6), 3, "ref.go:179", #[⟨4, .guard⟩], some (4, true)⟩ rfl ?_
     refine wSk 12 ⟨some 30, .indexAddr 22 (.tmp 28) (.tmp 29), 0, "ref.go:179", #[⟨10, .data⟩, ⟨11, .data⟩, ⟨4, .guard⟩], some (4, true)⟩ rfl ?_
     refine wSk 13 ⟨some 31, .fieldAddr 43 (.tmp 30) 0, 0, "ref.go:179", #[⟨12, .data⟩, ⟨4, .guard⟩], some (4, true)⟩ rfl ?_
     refine wSk 14 ⟨some 32, .load 9 (.tmp 31), 9, "ref.go:179", #[⟨13, .data⟩, ⟨4, .guard⟩], some (4, true)⟩ rfl ?_
     refine wSk 15 ⟨some 33, .binOp .eql 9 (.tmp 27) (.tmp 32) 9, 4, "ref.go:179", #[⟨9, .data⟩, ⟨14, .data⟩, ⟨4, .guard⟩], some (4, true)⟩ rfl ?_
     refine wTk 16 ⟨some 34, .pick (.tmp 22) (.tmp 33) (.const (.bool false)), 4, "ref.go:179", #[⟨4, .data⟩, ⟨15, .data⟩], none⟩ rfl ?_
     refine wpAnyH_done (by kernel_rfl) ?_ _
     clear hHeld
     have HIq := hide (HI.out.1.later (below_drew1 wq))
     obtain ⟨u0, hu0⟩ : ∃ u, wq.drew = u := ⟨_, rfl⟩
     rw [hu0] at HIq
     rw [hu0]
     clear hu0 hjli
     have HJn : Hid (j <= L.length) := by show j <= L.length; rw [HLn.out]; have := Hjl.out; omega
     have HWx : Hid (wt ((seg L i j).map (fun r => r.p)) <= 8796093022207) := Nat.le_trans (wt_seg (s := ri.s) (fun x hx => by
      obtain ⟨k, h1, h2, rfl⟩ := (seg_mem (Nat.le_of_lt HII.out) HJn.out).1 hx
      exact HI.out.2.2.1 k h1 h2)) (HWt.out _)
     have HGk : Hid (∀ k, i <= k -> k < j -> (L.getD k rc0).s = (L.getD i rc0).s) := fun k h1 h2 => by rw [Hri.out]; exact HI.out.2.2.1 k h1 h2
     have HEn : Hid (j < L.length -> (L.getD j rc0).s ≠ (L.getD i rc0).s) := fun h => by rw [Hri.out]; exact HEnd.out h
     have hgn : g.n <= 8796093022207 := by have := HI.out.2.2.2; omega
     go_wp2_with fail
     refine (refJoin_any g.o g.n g.c _ _ HIq.out.row HWx.out hgn).mono ?_
     rintro e w3 ⟨p, rfl, Sp, Np, b3, Cp⟩
     have HGp := hide (grp_next HOL.out.2 HM.out.inv.bnd HII.out HJn.out HGk.out HEn.out)
     have HPm : Hid (∀ r, r < 16 -> ∀ n, mem (runsAt p.P r) n ↔ ∃ x ∈ L, x.s = (L.getD i rc0).s /\ mem (runsAt x.p.P r) n) := fun r hr n => grp_past HII.out HJn.out HGp.out.2 Cp hr
     obtain ⟨g9, hg9⟩ : ∃ g, w3.heap.size = g := ⟨_, rfl⟩
     obtain ⟨w4, hst, X4, B4, -⟩ := madeP w3 p g9 hg9
     have hwg : wr.heap.size <= g9 := by
      have h1 := HIq.out.below.size
      have h2 := b3.size
      omega
     have HSet : Hid (∀ (W : World) (y : Pv), OwnRc w1.heap.size w0 W h F -> OwnRc w1.heap.size w0 (W.setRow g9 (PC y)) h F) := fun W y O => O.setOther g9 _ (by have h1 := HM.out.own.below.size; omega) (fun e => by have := (HM.out.own.own.lt _ e).2; omega) (fun r hr => PFar.old (HM.out.own.ok r hr).1.1 hwg)
     have HSq : Hid (∀ (W : World) (y : Pv), PSrc W q -> PSrc (W.setRow g9 (PC y)) q) := fun W y O => O.far (PFar.old HM.out.src hwg) (fun k hk => setRow_other _ _ _ _ hk)
     have HFp : Hid (FarH h p) := fun k hk => PFar.new Np (by have := (HM.out.own.own.lt _ hk).2; have := HIq.out.below.size; omega)
     have HW9 := hide hwg
     have HWr : Hid (g9 < w4.heap.size) := X4.lt
     clear hwg
     have HM4 := hide (HM.out.later (HIq.out.below.trans ((b3.trans (B4.mono b3.size)).mono HIq.out.below.size)))
     have HX4 : Hid (PBox w4 g9 p /\ PSrc w4 p /\ PNew w1.heap.size p /\ w1.heap.size <= g9) := ⟨X4, Sp.below B4, Np.mono (Nat.le_trans HM.out.own.hB.2 HIq.out.below.size), by rw [<- hg9]; exact Nat.le_trans HM.out.own.hB.2 (Nat.le_trans HIq.out.below.size b3.size)⟩
     have HCp : Hid (∃ C, CanonOf C p.P) := ⟨_, Cp⟩
     have hci := (HAt.out _ HM4.out.own.below i Hlt.out).1.flat.1
     rw [Hri.out] at hci
     have hiti : (i : Int) < (j : Int) := by have := Hlt.out; omega
     clear Sp Np b3 Cp X4 B4
     by_cases hnil : ri.s = nilF
     ·have hse : ri.s.toList.isEmpty = true := by rw [hnil]; exact empty_yesF
      have l9 := run_ldP HX4.out.1.at
      have st5 := run_stP (p' := p) HM4.out.box
      have HL0 : Hid ((L.getD i rc0).s = nilF) := by rw [Hri.out]; exact hnil
      have hs1 := HG.out
      have HM5 : Hid (OwnRc w1.heap.size w0 (w4.setRow g5 (PC p)) h F /\ PBox (w4.setRow g5 (PC p)) g5 p /\ PBox (w4.setRow g5 (PC p)) g9 p /\ PSrc (w4.setRow g5 (PC p)) p) := ⟨HM4.out.own.setOther g5 _ (by omega) (fun e => by have := (HM4.out.own.own.lt _ e).1; omega) (fun r hr => PFar.new (HM4.out.new r hr) (by omega)), setRow_heap _ _ _ _ _ _ HM4.out.box, (setRow_other _ _ _ _ (by have := HX4.out.2.2.2; omega)).trans HX4.out.1, psrc_off HX4.out.2.1 (fun ad e => setRow_other _ _ _ _ (by have := HX4.out.2.2.1.1 ad e; omega)) (fun ad e => setRow_other _ _ _ _ (by have := HX4.out.2.2.1.2 ad e; omega))⟩
      obtain ⟨w5, hw5⟩ : ∃ w5, w4.setRow g5 (PC p) = w5 := ⟨_, rfl⟩
      rw [hw5] at st5 HM5
      have l5 := run_ldP HM5.out.2.2.1.at
      have HAll := hide (AllP.nil HJn.out HII.out HL0.out HGp.out.2 HPm.out)
      have HFm : Hid (∀ r, r < 16 -> ∀ n, mem (runsAt p.P r) n ↔ FoldM L (L.getD i rc0).s r n) := fun r hr n => by rw [HPm.out r hr n, HL0.out, foldM_nil]
      clear hs1 hnil
      go_wp2_with fail
      clear hst hg9 hci hse l9 st5 hw5 l5
      refine (refEmpty_any p _ HM5.out.2.2.2).mono ?_
      rintro e w8 ⟨b, rfl, hb, b8⟩
      have HM8 : Hid (OwnRc w1.heap.size w0 w8 h F /\ PBox w8 g5 p /\ PBox w8 g9 p /\ PSrc w8 p /\ PSrc w8 p) := ⟨HM5.out.1.later b8, HM5.out.2.1.below b8, HM5.out.2.2.1.below b8, HM5.out.2.2.2.below b8, HM5.out.2.2.2.below b8⟩
      clear b8
      cases b with
      | true =>
       have HN : Hid (RfM w0 w1 g5 L j (T ++ [(L.getD i rc0).s.data.toList]) h F p w8) := ⟨HM8.out.1, HM.out.new, HM8.out.2.1, HM8.out.2.2.2.2, HX4.out.2.2.1, HM.out.inv.skip HOL.out.2 HII.out HJn.out HGk.out HEn.out HAll.out (fun r hr n k => hb.1 rfl r hr n ((HFm.out r hr n).2 k)), by have := HM.out.num; have := HII.out; omega, HFp.out⟩
       clear hb
       go_wp2_with fail
       go_roundw
       case rel => exact ⟨j, _, h, F, p, by have := HJn.out; have := HLn.out; omega, rfl, rfl, HN.out⟩
       case measure => simp [intOf]; have := HII.out; have := HJn.out; have := HLn.out; omega
      | false =>
       have HNe : Hid (¬ EmptyP p.P) := fun k => by have := hb.2 k; cases this
       have HSt : Hid (∀ W, Below w0.heap.size w0 W -> PBox W g9 p -> W.cell? ⟨b1, o1 + i * 3, none⟩ = some (.string ri.s) /\ (ldP (.pointer (some ⟨g9, 0, none⟩))).run Tryz.prog W = .ok (PV p) W) := fun W hW hX => by
        have h1 := (HAt.out W hW i Hlt.out).1.flat.1
        rw [Hri.out] at h1
        exact ⟨h1, run_ldP hX.at⟩
       have HSz : Hid (ri.s.size <= maxLen) := by
        have h1 := (HAt.out w8 HM8.out.1.below i Hlt.out).2.2
        rw [Hri.out] at h1
        exact h1
       clear hb
       have hiti : (i : Int) < (j : Int) := by have := Hlt.out; omega
       have O8 := HM8.out.1.later (below_drew1 w8)
       have X8 := HM8.out.2.2.1.below (below_drew1 w8)
       have x8 := HM8.out.2.1.below (below_drew1 w8)
       obtain ⟨gb, cb, wb, hab, Ob, hkb, hgb, hsb⟩ := O8.appAt ⟨ri.s, p⟩ ⟨HM8.out.2.2.2.1.below (below_drew1 w8), HSz.out⟩ HFp.out (by have := HM.out.num; have := Hlt.out; have := hbig; omega)
       have HAb : Hid ((Builtin.append_ #[22, 22] 22 #[.slice h.o h.n h.c, .slice (some ⟨w8.drew.heap.size, 0, none⟩) 1 1]).run Tryz.prog (w8.drew.alloc (.cells (ReC (mkR ⟨ri.s, p⟩)) 43)) = .ok (.slice (some ⟨gb, 0, none⟩) (h.n + 1) cb) wb) := hab
       have hown : ∀ k, (HsV h).ownBlock = some k -> w1.heap.size <= k /\ k < wr.heap.size := fun k e => HM.out.own.own.lt _ e
       have hwg9 := HW9.out
       have hs1 := HG.out
       have hq8 : PSrc w8.drew p := HM8.out.2.2.2.2.below (below_drew1 w8)
       have HN : Hid (RfM w0 w1 g5 L j (T ++ [(L.getD i rc0).s.data.toList]) ⟨some ⟨gb, 0, none⟩, h.n + 1, cb⟩ (F ++ [⟨ri.s, p⟩]) p wb /\ PBox wb g9 p) := by
        have hx9 : PBox wb g9 p := (hkb g9 X8.lt (fun e => by have := (hown _ e).2; omega)).trans X8
        refine ⟨⟨Ob, fun r hr => ?_, (hkb g5 x8.lt (fun e => by have := (hown _ e).1; omega)).trans x8, psrc_keep hq8 HFp.out (fun k hk hne => hkb k hk (fun e => hne e.symm)), HX4.out.2.2.1, ?_, by have := HM.out.num; have := HII.out; show h.n + 1 <= j; omega, fun k hk => ?_⟩, hx9⟩
        ·rcases List.mem_append.1 hr with hr | hr
         ·exact HM.out.new r hr
         ·obtain rfl : r = ⟨ri.s, p⟩ := by simpa using hr
          exact HX4.out.2.2.1
        ·refine HM.out.inv.add (x := ⟨ri.s, p⟩) HOL.out.2 HII.out HJn.out HGk.out HEn.out HAll.out (by rw [Hri.out]) ?_ HNe.out
         obtain ⟨C, hC⟩ := HCp.out
         refine canon_isP hC (fun r hr n => ?_)
         have h1 := HFm.out r hr n
         rw [Hri.out] at h1
         exact h1
        ·obtain rfl : gb = k := Option.some.inj hk
         rcases hgb with e | e
         ·exact HFp.out _ e
         ·exact PFar.old hq8 e
       clear O8 X8 x8 hab Ob hkb hgb hsb hown hwg9 hs1 hq8
       have HM9 : Hid (OwnRc w1.heap.size w0 w8.drew h F /\ PBox w8.drew g5 p /\ PBox w8.drew g9 p) := ⟨HM8.out.1.later (below_drew1 w8), HM8.out.2.1.below (below_drew1 w8), HM8.out.2.2.1.below (below_drew1 w8)⟩
       go_upto_region 17 with fail
       refine wp_region_held_drew (S := fun W => W.cell? ⟨b1, o1 + i * 3, none⟩ = some (.string ri.s) /\ (ldP (.pointer (some ⟨g9, 0, none⟩))).run Tryz.prog W = .ok (PV p) W) (by kernel_rfl) (HSt.out _ HM9.out.1.below HM9.out.2.2) (fun hHeld => ?_)
       refine wTk 0 ⟨some 60, .move (.tmp 4), 22, "ref.go:190", #[], none⟩ rfl ?_
       refine wTk 1 ⟨some 61, .move (.tmp 0), 22, "ref.go:190", #[], none⟩ rfl ?_
       refine wTk 2 ⟨some 62, .move (.tmp 6), 3, "ref.go:190", #[], none⟩ rfl ?_
       refine wTk 3 ⟨some 63, .indexAddr 22 (.tmp 61) (.tmp 62), 0, "ref.go:190", #[⟨1, .data⟩, ⟨2, .data⟩], none⟩ rfl ?_
       refine wTk 4 ⟨some 64, .fieldAddr 43 (.tmp 63) 0, 0, "ref.go:190", #[⟨3, .data⟩], none⟩ rfl ?_
       refine wTk 5 ⟨some 65, .load 9 (.tmp 64), 9, "ref.go:190", #[⟨4, .data⟩], none⟩ rfl ?_
       refine wTk 6 ⟨some 66, .load 27 (.tmp 9), 27, "ref.go:190", #[], none⟩ rfl ?_
       refine wTk 7 ⟨some 67, .build 43 #[(0, .tmp 65), (1, .tmp 66)], 43, "ref.go:190", #[⟨5, .data⟩, ⟨6, .data⟩], none⟩ rfl ?_
       obtain ⟨u9, hu9⟩ : ∃ u, w8.drew = u := ⟨_, rfl⟩
       rw [hu9] at HM9 HAb
       rw [hu9]
       clear hu9
       refine wpAnyH_ready (rs := [8]) (by kernel_rfl) (by simp) (.cons rfl (fun K hK => ?_) .nil)
       obtain ⟨u7, hu7⟩ : ∃ u, u9.alloc (.cells (ReC (mkR ⟨ri.s, p⟩)) 43) = u := ⟨_, rfl⟩
       have HB7 := hide (below_new u9 (.cells (ReC (mkR ⟨ri.s, p⟩)) 43))
       rw [hu7] at HB7
       go_simp
       refine hK.out _ _ (HSt.out _ (HM9.out.1.below.trans (HB7.out.mono HM9.out.1.below.size)) (HM9.out.2.2.below HB7.out)) (fun hHeld => ?_)
       clear hK K
       refine wpAnyH_ready (rs := [9]) (by kernel_rfl) (by simp) (.cons rfl (fun K hK => ?_) .nil)
       have HA7 := HAb.out
       rw [hu7] at HA7
       refine step_appM (by rfl) (.tmp 60) (.tmp 68) (by rfl) (by rfl) (by rfl) HA7 ?_
       refine hK.out _ _ (HSt.out _ HN.out.1.own.below HN.out.2) (fun hHeld => ?_)
       clear hK K
       clear HA7 hu7
       refine wTk 10 ⟨some 4, .assign (.tmp 69), 22, "ref.go:190", #[⟨9, .data⟩, ⟨9, .chain⟩, ⟨0, .phase⟩, ⟨1, .phase⟩, ⟨2, .phase⟩, ⟨3, .phase⟩, ⟨4, .phase⟩, ⟨5, .phase⟩, ⟨6, .phase⟩, ⟨7, .phase⟩, ⟨8, .phase⟩, ⟨9, .phase⟩], none⟩ rfl ?_
       refine wpAnyH_done (by kernel_rfl) ?_ _
       clear hHeld
       go_wp2_with fail
       go_roundw
       case rel => exact ⟨j, _, ⟨some ⟨gb, 0, none⟩, h.n + 1, cb⟩, _, p, by have := HJn.out; have := HLn.out; omega, rfl, rfl, HN.out.1⟩
       case measure => simp [intOf]; have := HII.out; have := HJn.out; have := HLn.out; omega
     ·have hse : ri.s.toList.isEmpty = false := empty_noF hnil
      have HLn0 : Hid ((L.getD i rc0).s ≠ nilF) := by rw [Hri.out]; exact hnil
      have l9 := run_ldP HX4.out.1.at
      have l5 := run_ldP HM4.out.box.at
      have HNn : Hid (∀ k, i <= k -> k < L.length -> (L.getD k rc0).s ≠ nilF) := fun k h1 h2 e => by
       by_cases e2 : k = i
       ·rw [e2] at e; exact HLn0.out e
       ·rcases srt_sku HOL.out.2 (show i < k by omega) h2 with h3 | h3
        ·rw [e] at h3; exact cmpS_nil _ h3
        ·rw [e] at h3; exact HLn0.out h3
      clear hnil
      go_wp2_with fail
      clear hst hg9 hci hse l9 l5
      refine (refMinus_any p q _ HX4.out.2.1 HM4.out.src).mono ?_
      rintro e w6 ⟨y, rfl, Sy, Ny, b6, C, hC1, hC2⟩
      have x6 := HX4.out.1.below b6
      have st9 := run_stP (p' := y) x6
      have hs1 := HG.out
      have hg9w := HX4.out.2.2.2
      have hlt9 := HX4.out.1.lt
      have M6 := HM4.out.later b6
      have HM5 : Hid (OwnRc w1.heap.size w0 (w6.setRow g9 (PC y)) h F /\ PBox (w6.setRow g9 (PC y)) g5 q /\ PBox (w6.setRow g9 (PC y)) g9 y /\ PSrc (w6.setRow g9 (PC y)) y /\ PSrc (w6.setRow g9 (PC y)) q /\ PNew w1.heap.size y) := ⟨HSet.out _ y M6.own, (setRow_other _ _ _ _ (by omega)).trans M6.box, setRow_heap _ _ _ _ _ _ x6, psrc_off Sy (fun ad e => setRow_other _ _ _ _ (by have := Ny.1 ad e; omega)) (fun ad e => setRow_other _ _ _ _ (by have := Ny.2 ad e; omega)), HSq.out _ y M6.src, Ny.mono (by have := M6.own.hB.2; have := HM4.out.own.hB.2; omega)⟩
      obtain ⟨w7, hw7⟩ : ∃ w7, w6.setRow g9 (PC y) = w7 := ⟨_, rfl⟩
      rw [hw7] at st9 HM5
      have l7 := run_ldP HM5.out.2.2.1.at
      have HAll := hide (HM.out.inv.all.next (Nat.le_of_lt HII.out) (fun k h1 h2 => HNn.out k h1 (by have := HJn.out; omega)))
      have HFm : Hid (∀ r, r < 16 -> ∀ n, mem (runsAt y.P r) n ↔ FoldM L (L.getD i rc0).s r n) := fun r hr n => by
       rw [canon_mem hC2 r hr n, (hC1 r hr).2 n, HPm.out r hr n, HM.out.inv.all.whole HNn.out hr, foldM_no HLn0.out]
      have HFy : Hid (FarH h y) := fun k hk => PFar.new Ny (by have := (HM.out.own.own.lt _ hk).2; have := HM4.out.own.hB.2; have h1 := HW9.out; have h3 := HWr.out; omega)
      have HCy : Hid (∃ C, CanonOf C y.P) := ⟨_, hC2⟩
      clear Sy Ny b6 hC1 hC2 C x6 hs1 hg9w hlt9 M6
      go_wp2_with fail
      clear st9 hw7 l7
      refine (refEmpty_any y _ HM5.out.2.2.2.1).mono ?_
      rintro e w8 ⟨b, rfl, hb, b8⟩
      have HM8 : Hid (OwnRc w1.heap.size w0 w8 h F /\ PBox w8 g5 q /\ PBox w8 g9 y /\ PSrc w8 y /\ PSrc w8 q) := ⟨HM5.out.1.later b8, HM5.out.2.1.below b8, HM5.out.2.2.1.below b8, HM5.out.2.2.2.1.below b8, HM5.out.2.2.2.2.1.below b8⟩
      clear b8
      cases b with
      | true =>
       have HN : Hid (RfM w0 w1 g5 L j (T ++ [(L.getD i rc0).s.data.toList]) h F q w8) := ⟨HM8.out.1, HM.out.new, HM8.out.2.1, HM8.out.2.2.2.2, HM.out.qn, HM.out.inv.skip HOL.out.2 HII.out HJn.out HGk.out HEn.out HAll.out (fun r hr n k => hb.1 rfl r hr n ((HFm.out r hr n).2 k)), by have := HM.out.num; have := HII.out; omega, HM.out.far⟩
       clear hb
       go_wp2_with fail
       go_roundw
       case rel => exact ⟨j, _, h, F, q, by have := HJn.out; have := HLn.out; omega, rfl, rfl, HN.out⟩
       case measure => simp [intOf]; have := HII.out; have := HJn.out; have := HLn.out; omega
      | false =>
       have HNe : Hid (¬ EmptyP y.P) := fun k => by have := hb.2 k; cases this
       have HSt : Hid (∀ W, Below w0.heap.size w0 W -> PBox W g9 y -> W.cell? ⟨b1, o1 + i * 3, none⟩ = some (.string ri.s) /\ (ldP (.pointer (some ⟨g9, 0, none⟩))).run Tryz.prog W = .ok (PV y) W) := fun W hW hX => by
        have h1 := (HAt.out W hW i Hlt.out).1.flat.1
        rw [Hri.out] at h1
        exact ⟨h1, run_ldP hX.at⟩
       have HSz : Hid (ri.s.size <= maxLen) := by
        have h1 := (HAt.out w8 HM8.out.1.below i Hlt.out).2.2
        rw [Hri.out] at h1
        exact h1
       clear hb
       have hiti : (i : Int) < (j : Int) := by have := Hlt.out; omega
       have O8 := HM8.out.1.later (below_drew1 w8)
       have X8 := HM8.out.2.2.1.below (below_drew1 w8)
       have x8 := HM8.out.2.1.below (below_drew1 w8)
       obtain ⟨gb, cb, wb, hab, Ob, hkb, hgb, hsb⟩ := O8.appAt ⟨ri.s, y⟩ ⟨HM8.out.2.2.2.1.below (below_drew1 w8), HSz.out⟩ HFy.out (by have := HM.out.num; have := Hlt.out; have := hbig; omega)
       have HAb : Hid ((Builtin.append_ #[22, 22] 22 #[.slice h.o h.n h.c, .slice (some ⟨w8.drew.heap.size, 0, none⟩) 1 1]).run Tryz.prog (w8.drew.alloc (.cells (ReC (mkR ⟨ri.s, y⟩)) 43)) = .ok (.slice (some ⟨gb, 0, none⟩) (h.n + 1) cb) wb) := hab
       have hown : ∀ k, (HsV h).ownBlock = some k -> w1.heap.size <= k /\ k < wr.heap.size := fun k e => HM.out.own.own.lt _ e
       have hwg9 := HW9.out
       have hs1 := HG.out
       have hq8 : PSrc w8.drew q := HM8.out.2.2.2.2.below (below_drew1 w8)
       have HN : Hid (RfM w0 w1 g5 L j (T ++ [(L.getD i rc0).s.data.toList]) ⟨some ⟨gb, 0, none⟩, h.n + 1, cb⟩ (F ++ [⟨ri.s, y⟩]) q wb /\ PBox wb g9 y) := by
        have hx9 : PBox wb g9 y := (hkb g9 X8.lt (fun e => by have := (hown _ e).2; omega)).trans X8
        refine ⟨⟨Ob, fun r hr => ?_, (hkb g5 x8.lt (fun e => by have := (hown _ e).1; omega)).trans x8, psrc_keep hq8 HM.out.far (fun k hk hne => hkb k hk (fun e => hne e.symm)), HM.out.qn, ?_, by have := HM.out.num; have := HII.out; show h.n + 1 <= j; omega, fun k hk => ?_⟩, hx9⟩
        ·rcases List.mem_append.1 hr with hr | hr
         ·exact HM.out.new r hr
         ·obtain rfl : r = ⟨ri.s, y⟩ := by simpa using hr
          exact HM5.out.2.2.2.2.2
        ·refine HM.out.inv.add (x := ⟨ri.s, y⟩) HOL.out.2 HII.out HJn.out HGk.out HEn.out HAll.out (by rw [Hri.out]) ?_ HNe.out
         obtain ⟨C, hC⟩ := HCy.out
         refine canon_isP hC (fun r hr n => ?_)
         have h1 := HFm.out r hr n
         rw [Hri.out] at h1
         exact h1
        ·obtain rfl : gb = k := Option.some.inj hk
         rcases hgb with e | e
         ·exact HM.out.far _ e
         ·exact PFar.old hq8 e
       clear O8 X8 x8 hab Ob hkb hgb hsb hown hwg9 hs1 hq8
       have HM9 : Hid (OwnRc w1.heap.size w0 w8.drew h F /\ PBox w8.drew g5 q /\ PBox w8.drew g9 y) := ⟨HM8.out.1.later (below_drew1 w8), HM8.out.2.1.below (below_drew1 w8), HM8.out.2.2.1.below (below_drew1 w8)⟩
       go_upto_region 17 with fail
       refine wp_region_held_drew (S := fun W => W.cell? ⟨b1, o1 + i * 3, none⟩ = some (.string ri.s) /\ (ldP (.pointer (some ⟨g9, 0, none⟩))).run Tryz.prog W = .ok (PV y) W) (by kernel_rfl) (HSt.out _ HM9.out.1.below HM9.out.2.2) (fun hHeld => ?_)
       refine wTk 0 ⟨some 60, .move (.tmp 4), 22, "ref.go:190", #[], none⟩ rfl ?_
       refine wTk 1 ⟨some 61, .move (.tmp 0), 22, "ref.go:190", #[], none⟩ rfl ?_
       refine wTk 2 ⟨some 62, .move (.tmp 6), 3, "ref.go:190", #[], none⟩ rfl ?_
       refine wTk 3 ⟨some 63, .indexAddr 22 (.tmp 61) (.tmp 62), 0, "ref.go:190", #[⟨1, .data⟩, ⟨2, .data⟩], none⟩ rfl ?_
       refine wTk 4 ⟨some 64, .fieldAddr 43 (.tmp 63) 0, 0, "ref.go:190", #[⟨3, .data⟩], none⟩ rfl ?_
       refine wTk 5 ⟨some 65, .load 9 (.tmp 64), 9, "ref.go:190", #[⟨4, .data⟩], none⟩ rfl ?_
       refine wTk 6 ⟨some 66, .load 27 (.tmp 9), 27, "ref.go:190", #[], none⟩ rfl ?_
       refine wTk 7 ⟨some 67, .build 43 #[(0, .tmp 65), (1, .tmp 66)], 43, "ref.go:190", #[⟨5, .data⟩, ⟨6, .data⟩], none⟩ rfl ?_
       obtain ⟨u9, hu9⟩ : ∃ u, w8.drew = u := ⟨_, rfl⟩
       rw [hu9] at HM9 HAb
       rw [hu9]
       clear hu9
       refine wpAnyH_ready (rs := [8]) (by kernel_rfl) (by simp) (.cons rfl (fun K hK => ?_) .nil)
       obtain ⟨u7, hu7⟩ : ∃ u, u9.alloc (.cells (ReC (mkR ⟨ri.s, y⟩)) 43) = u := ⟨_, rfl⟩
       have HB7 := hide (below_new u9 (.cells (ReC (mkR ⟨ri.s, y⟩)) 43))
       rw [hu7] at HB7
       go_simp
       refine hK.out _ _ (HSt.out _ (HM9.out.1.below.trans (HB7.out.mono HM9.out.1.below.size)) (HM9.out.2.2.below HB7.out)) (fun hHeld => ?_)
       clear hK K
       refine wpAnyH_ready (rs := [9]) (by kernel_rfl) (by simp) (.cons rfl (fun K hK => ?_) .nil)
       have HA7 := HAb.out
       rw [hu7] at HA7
       refine step_appM (by rfl) (.tmp 60) (.tmp 68) (by rfl) (by rfl) (by rfl) HA7 ?_
       refine hK.out _ _ (HSt.out _ HN.out.1.own.below HN.out.2) (fun hHeld => ?_)
       clear hK K
       clear HA7 hu7
       refine wTk 10 ⟨some 4, .assign (.tmp 69), 22, "ref.go:190", #[⟨9, .data⟩, ⟨9, .chain⟩, ⟨0, .phase⟩, ⟨1, .phase⟩, ⟨2, .phase⟩, ⟨3, .phase⟩, ⟨4, .phase⟩, ⟨5, .phase⟩, ⟨6, .phase⟩, ⟨7, .phase⟩, ⟨8, .phase⟩, ⟨9, .phase⟩], none⟩ rfl ?_
       refine wpAnyH_done (by kernel_rfl) ?_ _
       clear hHeld
       go_wp2_with fail
       go_roundw
       case rel => exact ⟨j, _, ⟨some ⟨gb, 0, none⟩, h.n + 1, cb⟩, _, q, by have := HJn.out; have := HLn.out; omega, rfl, rfl, HN.out.1⟩
       case measure => simp [intOf]; have := HII.out; have := HJn.out; have := HLn.out; omega
  ·have hlti : ¬ (i : Int) < (n : Int) := by omega
   have HE : Hid (FoA w wr (.returned (.tuple #[.slice h.o h.n h.c, .int .i64 0])) L n) := by
    obtain ⟨r1, r2, r3⟩ := ownRc_row HM.out.own (by have := HM.out.num; have := hbig; omega)
    have hi := HM.out.inv
    rw [show i = L.length by rw [HLn.out]; omega] at hi
    have hsz := HB0.out.size
    have hs1 := HG.out
    exact .inl ⟨HO.out, h, F, rfl, r1.src, HB0.out.trans (r3.mono hsz), fun ad e => by have := r2 ad e; omega, hi.done⟩
   clear hin HM
   go_wp2_with fail
   go_ret2
   exact HE.out
end Go.Proofs.YtalcmdjiejhkgaaGreat
