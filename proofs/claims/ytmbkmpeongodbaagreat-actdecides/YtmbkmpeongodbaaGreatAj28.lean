/- EJa Litl LKf LRg LLk -/
import Derived.Test.YtmbkmpeongodbaaGreatTk
import Derived.Test.YtmbkmpeongodbaaGreatAj21
import Derived.Test.YtmbkmpeongodbaaGreatAj27
import Derived.Deep.CutRange
import Derived.Shelf.SlIter.Nil
import Derived.Shelf.SortM.Plain
import Derived.Shelf.SortM.SortNone
import Derived.Test.YtmbkmpeongodbaaGreatProg
import Derived.Test.YtmbkmpeongodbaaGreatAj18
import Derived.RegionTactic
import Derived.Maps.OwnOps
import Derived.StringKeys
namespace Go.Proofs.YtmbkmpeongodbaaGreat
open Go.RowKit
attribute [local go_sem ↓] ldP_eq stP_eq ldFa_eq stFa_eq ldRe_eq stRe_eq
attribute [local go_sem] cells_PV PC_size cells_FaV FaC_size cells_ReV ReC_size
theorem rcs_spot {w : World} {ad : Addr} {n c : Nat} {L : List Rc} (h : RcS w (some ad) n c L) (hn : 0 < n) : ∃ b o, ad = ⟨b, o, none⟩ := by
 obtain ⟨ad0, e0, A00⟩ := h.at 0 hn
 obtain rfl := Option.some.inj e0
 have hsp := World.cell?_spot A00.c0
 rw [Nat.zero_mul, add_zero] at hsp
 obtain ⟨b, o, sp⟩ := ad
 have hsp : sp = none := hsp
 subst hsp
 exact ⟨b, o, rfl⟩
theorem re_flat {w : World} {b o : Nat} {r : Rc} (A : ReAt w ⟨b, o, none⟩ (mkR r)) : w.cell? ⟨b, o, none⟩ = some (.string r.s) ∧ PAt w ⟨b, o + 1, none⟩ r.p := by
 obtain ⟨h0, h1, h2⟩ := A
 rw [Addr.add_lit] at h1 h2
 refine ⟨h0, h1, ?_⟩
 rw [Addr.add_lit]
 exact h2
theorem same_at {A B : List Rc} (h : A.map (fun r => (r.s, r.p.P)) = B.map (fun r => (r.s, r.p.P))) {k : Nat} (hk : k < A.length) : (A.getD k rc0).s = (B.getD k rc0).s ∧ (A.getD k rc0).p.P = (B.getD k rc0).p.P := by
 have hl : A.length = B.length := by have := congrArg List.length h; simpa using this
 have h1 : (A.map (fun r => (r.s, r.p.P)))[k]? = (B.map (fun r => (r.s, r.p.P)))[k]? := by rw [h]
 rw [List.getElem?_map, List.getElem?_map, List.getElem?_eq_getElem hk, List.getElem?_eq_getElem (by omega)] at h1
 simp only [Option.map_some, Option.some.injEq, Prod.mk.injEq] at h1
 rw [List.getD_eq_getElem?_getD, List.getD_eq_getElem?_getD, List.getElem?_eq_getElem hk, List.getElem?_eq_getElem (by omega)]
 exact h1
set_option maxRecDepth 100000 in
set_option maxHeartbeats 6400000 in
theorem facts_true (f h : Fc) (w : World) (hF : FcOk w f) (hH : FcOk w h) (hE : SameF f h) :
  Calls Tryz.prog 9 #[FaV (mkF f), FaV (mkF h)] w fun e w' => e = .returned (.bool true) ∧ Below w.heap.size w w' := by
 have b1 := below_new w (.cells (FaC (mkF f)) 36)
 have b2 := below_new (w.alloc (.cells (FaC (mkF f)) 36)) (.cells (FaC (mkF h)) 36)
 have X2 := FaBox_new (w.alloc (.cells (FaC (mkF f)) 36)) (mkF h)
 rw [World.size_alloc] at X2
 have HX := hide ((FaBox_new w (mkF f)).below b2)
 have HY := hide X2
 have HBK := hide (b1.trans (b2.mono b1.size))
 have HF := hide (hF.below HBK.out)
 have HH := hide (hH.below HBK.out)
 have HE := hide hE
 have HLl : Hid (f.rs.length = f.rn ∧ f.rn ≤ 2199023255552) := ⟨hF.rs.len, hF.rs.big⟩
 have hrn : h.rn = f.rn := by
  have := congrArg List.length hE.2.2
  simp only [List.length_map] at this
  rw [← hF.rs.len, ← hH.rs.len, this]
 have hnb := hF.rs.big
 have HRn := hide hrn
 clear b1 b2 X2 hF hH hE hrn
 obtain ⟨wk, hwk⟩ : ∃ wk, (w.alloc (.cells (FaC (mkF f)) 36)).alloc (.cells (FaC (mkF h)) 36) = wk := ⟨_, rfl⟩
 obtain ⟨G, hG⟩ : ∃ G, w.heap.size = G := ⟨_, rfl⟩
 rw [hwk] at HX HY HBK HF HH
 rw [hG] at HX HY
 obtain ⟨c0, c3⟩ := HX.out.cs
 obtain ⟨d0, d3⟩ := HY.out.cs
 go_enter Tryz.func9, Tryz.ntmps9
 go_wp2_with fail
 clear hwk hG c0 c3 d0 d3
 refine (entries08_any f.ao h.ao f.an h.an f.ac h.ac f.es h.es _ HF.out.es HH.out.es).mono ?_
 rintro e w1 ⟨x, rfl, hx, b1⟩
 obtain rfl : x = true := hx.2 HE.out.1
 have HB1 := hide b1
 clear hx b1
 have l1 := run_ldP (HX.out.below HB1.out).past
 have l2 := run_ldP (HY.out.below HB1.out).past
 go_wp2_with fail
 clear l1 l2
 refine (samePast_any f.p h.p _ (HF.out.p.below HB1.out) (HH.out.p.below HB1.out)).mono ?_
 rintro e w2 ⟨x, rfl, hx, b2⟩
 obtain rfl : x = true := hx.2 HE.out.2.1
 have HB2 := hide (HB1.out.trans (b2.mono HB1.out.size))
 clear hx b2
 have c3 := (HX.out.below HB2.out).cs.2
 have d3 := (HY.out.below HB2.out).cs.2
 rw [HRn.out] at d3
 have hnn : ((f.rn : Int) != (f.rn : Int)) = false := by simp
 go_wp2_with fail
 clear c3 d3 hnn
 go_loopw [5] (fun i wr => ∃ k : Nat, k ≤ f.rn ∧ i = .int .i64 (k : Int) ∧ Hid (Below wk.heap.size wk wr)) (fun i _ => f.rn - (intOf i).toNat)
 case atStart => exact ⟨0, Nat.zero_le _, rfl, HB2⟩
 case round =>
  obtain ⟨k, hk, rfl, HB⟩ := hrel
  rename World => wr
  have c3 := (HX.out.below HB.out).cs.2
  by_cases hlt : k < f.rn
  ·have hlti : (k : Int) < (f.rn : Int) := by omega
   obtain ⟨ad, hao, A0⟩ := (HF.out.rs.below HB.out).at k hlt
   obtain ⟨bd, hbo, B0⟩ := (HH.out.rs.below HB.out).at k (by rw [HRn.out]; exact hlt)
   have hsf := HF.out.rs
   have hsh := HH.out.rs
   rw [hao] at hsf
   rw [hbo] at hsh
   obtain ⟨b1, o1, rfl⟩ := rcs_spot hsf (by omega)
   obtain ⟨b2, o2, rfl⟩ := rcs_spot hsh (by rw [HRn.out]; omega)
   have HO1 := (HF.out.rs.below HB.out).okAt k hlt
   have HO2 := (HH.out.rs.below HB.out).okAt k (by rw [HRn.out]; exact hlt)
   have hsa := same_at HE.out.2.2 (k := k) (by have := HLl.out.1; omega)
   obtain ⟨x, Hx⟩ : ∃ x, Hid (f.rs.getD k rc0 = x) := ⟨_, rfl⟩
   obtain ⟨y, Hy⟩ : ∃ y, Hid (h.rs.getD k rc0 = y) := ⟨_, rfl⟩
   rw [Hx.out] at A0 HO1 hsa
   rw [Hy.out] at B0 HO2 hsa
   rw [Addr.add_lit] at A0 B0
   have HA := hide A0
   have HBb := hide B0
   have HO : Hid (PSrc wr x.p ∧ PSrc wr y.p) := ⟨HO1.1, HO2.1⟩
   have HSa := hide hsa
   have hsb : (x.s.toList == y.s.toList) = true := by rw [hsa.1]; simp
   have Hlt := hide hlt
   have hklt2 : (k : Int) < (h.rn : Int) := by rw [HRn.out]; omega
   rw [hao] at c3
   have HAo := hide hao
   have HBo := hide hbo
   clear hao hbo A0 B0 HO1 HO2 hsf hsh hsa hlt
   go_upto_region 6 with fail
   clear c3
   have HD := hide (HB.out.trans ((below_drew1 wr).mono HB.out.size))
   refine wp_region_held_drew (S := fun v => ((v.cell? ⟨G, 3, none⟩ = some (.slice (some ⟨b1, o1, none⟩) f.rn f.rc) ∧ v.cell? ⟨G + 1, 3, none⟩ = some (.slice (some ⟨b2, o2, none⟩) h.rn h.rc)) ∧ v.cell? ⟨b1, o1 + k * 3, none⟩ = some (.string x.s) ∧ v.cell? ⟨b2, o2 + k * 3, none⟩ = some (.string y.s)) ∧ (ldP (.pointer (some ⟨b1, o1 + k * 3 + 1, none⟩))).run Tryz.prog v = .ok (PV x.p) v ∧ (ldP (.pointer (some ⟨b2, o2 + k * 3 + 1, none⟩))).run Tryz.prog v = .ok (PV y.p) v) (by kernel_rfl) (⟨⟨⟨by have := (HX.out.below HD.out).cs.2; rw [HAo.out] at this; exact this, by have := (HY.out.below HD.out).cs.2; rw [HBo.out] at this; exact this⟩, (re_flat (HA.out.on (below_drew1 wr))).1, (re_flat (HBb.out.on (below_drew1 wr))).1⟩, run_ldP (re_flat (HA.out.on (below_drew1 wr))).2, run_ldP (re_flat (HBb.out.on (below_drew1 wr))).2⟩) (fun hHeld => ?_)
   refine wTk 0 ⟨some 36, .fieldAddr 36 (.tmp 2) 2, 0, "law.go:46", #[], none⟩ rfl ?_
   refine wTk 1 ⟨some 37, .load 34 (.tmp 36), 34, "law.go:46", #[⟨0, .data⟩], none⟩ rfl ?_
   refine wTk 2 ⟨some 38, .move (.tmp 5), 3, "law.go:46", #[], none⟩ rfl ?_
   refine wTk 3 ⟨some 39, .indexAddr 34 (.tmp 37) (.tmp 38), 0, "law.go:46", #[⟨1, .data⟩, ⟨2, .data⟩], none⟩ rfl ?_
   refine wTk 4 ⟨some 40, .fieldAddr 65 (.tmp 39) 0, 0, "law.go:46", #[⟨3, .data⟩], none⟩ rfl ?_
   refine wTk 5 ⟨some 41, .load 9 (.tmp 40), 9, "law.go:46", #[⟨4, .data⟩], none⟩ rfl ?_
   refine wTk 6 ⟨some 42, .fieldAddr 36 (.tmp 3) 2, 0, "law.go:46", #[], none⟩ rfl ?_
   refine wTk 7 ⟨some 43, .load 34 (.tmp 42), 34, "law.go:46", #[⟨6, .data⟩], none⟩ rfl ?_
   refine wTk 8 ⟨some 44, .move (.tmp 5), 3, "law.go:46", #[], none⟩ rfl ?_
   refine wTk 9 ⟨some 45, .indexAddr 34 (.tmp 43) (.tmp 44), 0, "law.go:46", #[⟨7, .data⟩, ⟨8, .data⟩], none⟩ rfl ?_
   refine wTk 10 ⟨some 46, .fieldAddr 65 (.tmp 45) 0, 0, "law.go:46", #[⟨9, .data⟩], none⟩ rfl ?_
   refine wTk 11 ⟨some 47, .load 9 (.tmp 46), 9, "law.go:46", #[⟨10, .data⟩], none⟩ rfl ?_
   refine wTk 12 ⟨some 48, .binOp .neq 9 (.tmp 41) (.tmp 47) 9, 4, "law.go:46", #[⟨5, .data⟩, ⟨11, .data⟩], none⟩ rfl ?_
   refine wTk 13 ⟨some 49, .move (.tmp 48), 4, "law.go:46", #[⟨12, .data⟩], none⟩ rfl ?_
   refine wTk 14 ⟨some 50, .fieldAddr 36 (.tmp 2) 2, 0, "law.go:46", #[⟨13, .guard⟩], some (13, false)⟩ rfl ?_
   refine wTk 15 ⟨some 51, .load 34 (.tmp 50), 34, "law.go:46", #[⟨14, .data⟩, ⟨13, .guard⟩], some (13, false)⟩ rfl ?_
   refine wTk 16 ⟨some 52, .move (.tmp 5), 3, "law.go:46", #[⟨13, .guard⟩], some (13, false)⟩ rfl ?_
   refine wTk 17 ⟨some 53, .indexAddr 34 (.tmp 51) (.tmp 52), 0, "law.go:46", #[⟨15, .data⟩, ⟨16, .data⟩, ⟨13, .guard⟩], some (13, false)⟩ rfl ?_
   refine wTk 18 ⟨some 54, .fieldAddr 65 (.tmp 53) 1, 0, "law.go:46", #[⟨17, .data⟩, ⟨13, .guard⟩], some (13, false)⟩ rfl ?_
   refine wTk 19 ⟨some 55, .load 26 (.tmp 54), 26, "law.go:46", #[⟨18, .data⟩, ⟨13, .guard⟩], some (13, false)⟩ rfl ?_
   refine wTk 20 ⟨some 56, .fieldAddr 36 (.tmp 3) 2, 0, "law.go:46", #[⟨13, .guard⟩], some (13, false)⟩ rfl ?_
   refine wTk 21 ⟨some 57, .load 34 (.tmp 56), 34, "law.go:46", #[⟨20, .data⟩, ⟨13, .guard⟩], some (13, false)⟩ rfl ?_
   refine wTk 22 ⟨some 58, .move (.tmp 5), 3, "law.go:46", #[⟨13, .guard⟩], some (13, false)⟩ rfl ?_
   refine wTk 23 ⟨some 59, .indexAddr 34 (.tmp 57) (.tmp 58), 0, "law.go:46", #[⟨21, .data⟩, ⟨22, .data⟩, ⟨13, .guard⟩], some (13, false)⟩ rfl ?_
   refine wTk 24 ⟨some 60, .fieldAddr 65 (.tmp 59) 1, 0, "law.go:46", #[⟨23, .data⟩, ⟨13, .guard⟩], some (13, false)⟩ rfl ?_
   refine wTk 25 ⟨some 61, .load 26 (.tmp 60), 26, "law.go:46", #[⟨24, .data⟩, ⟨13, .guard⟩], some (13, false)⟩ rfl ?_
   refine wpAnyH_ready (rs := [26]) (by kernel_rfl) (by simp) (.cons rfl (fun K hK => ?_) .nil)
   go_simp
   go_wp2_with fail
   refine (samePast_any x.p y.p _ (HO.out.1.below (below_drew1 wr)) (HO.out.2.below (below_drew1 wr))).mono ?_
   rintro e w3 ⟨b, rfl, hb, b3⟩
   obtain rfl : b = true := hb.2 HSa.out.2
   have HB3 := hide (HD.out.trans (b3.mono HD.out.size))
   have HW3 := hide ((below_drew1 wr).trans (b3.mono (below_drew1 wr).size))
   refine hK.out _ _ ⟨⟨⟨by have := (HX.out.below HB3.out).cs.2; rw [HAo.out] at this; exact this, by have := (HY.out.below HB3.out).cs.2; rw [HBo.out] at this; exact this⟩, (re_flat (HA.out.on HW3.out)).1, (re_flat (HBb.out.on HW3.out)).1⟩, run_ldP (re_flat (HA.out.on HW3.out)).2, run_ldP (re_flat (HBb.out.on HW3.out)).2⟩ (fun hHeld => ?_)
   clear hK K hb b3
   refine wTk 27 ⟨some 63, .unOp .not 4 (.tmp 62), 4, "law.go:46", #[⟨26, .data⟩, ⟨13, .guard⟩], some (13, false)⟩ rfl ?_
   refine wTk 28 ⟨some 64, .pick (.tmp 49) (.const (.bool true)) (.tmp 63), 4, "law.go:46", #[⟨13, .data⟩, ⟨27, .data⟩], none⟩ rfl ?_
   refine wpAnyH_done (by kernel_rfl) ?_ _
   clear hHeld
   go_wp2_with fail
   go_roundw
   case rel => exact ⟨k + 1, Hlt.out, by simp, HB3⟩
   case measure => simp [intOf]; have := Hlt.out; omega
  ·have hlti : ¬ (k : Int) < (f.rn : Int) := by omega
   have HBf := hide (HBK.out.trans (HB.out.mono HBK.out.size))
   go_wp2_with fail
   go_ret
   exact ⟨rfl, HBf.out⟩
end Go.Proofs.YtmbkmpeongodbaaGreat
namespace Go.Proofs
open Go.Shelf
def Tryz.keysL_ren : Go.Shelf.Ren := ⟨fun | 7 => 172 | 10 => 197 | n => n, fun | 23 => 201 | 26 => 9 | 3 => 53 | 28 => 165 | 0 => 0 | 27 => 164 | 33 => 100 | 4 => 4 | n => n, fun | n => n⟩
theorem Tryz.keysL : Go.Proofs.SlLaysZ.n7 Tryz.prog Tryz.keysL_ren := {
 mixed := by kernel_rfl
 f7 := ⟨Tryz.f172.name, by decide, Tryz.func172.trans (congrArg some (by kernel_rfl))⟩
 f10 := ⟨Tryz.f197.name, by decide, Tryz.func197.trans (congrArg some (by kernel_rfl))⟩
 t0 := Tryz.underlying0
 a0 := Tryz.isAgg0
 z0 := Tryz.sizeOf0
 v0 := Tryz.zeroValue0
 t4 := Tryz.underlying4
 a4 := Tryz.isAgg4
 z4 := Tryz.sizeOf4
 v4 := Tryz.zeroValue4
 t23 := Tryz.underlying201
 a23 := Tryz.isAgg201
 z23 := Tryz.sizeOf201
 v23 := Tryz.zeroValue201
 t26 := Tryz.underlying9
 a26 := Tryz.isAgg9
 z26 := Tryz.sizeOf9
 v26 := Tryz.zeroValue9
 t27 := Tryz.underlying164
 a27 := Tryz.isAgg164
 z27 := Tryz.sizeOf164
 v27 := Tryz.zeroValue164
 t28 := Tryz.underlying165
 a28 := Tryz.isAgg165
 z28 := Tryz.sizeOf165
 v28 := Tryz.zeroValue165
 t33 := Tryz.underlying100
 a33 := Tryz.isAgg100
 z33 := Tryz.sizeOf100
 v33 := Tryz.zeroValue100 }
end Go.Proofs
namespace Go.Proofs.YtmbkmpeongodbaaGreat.K
open Go.RowKit Go.Maps Go.Sort Go.Shelf

theorem sorts_in (m : Nat) : AnyZ.SortsIn Tryz.prog Tryz.sortedM_ren Fence.wide m :=
 ⟨fun blk off cap ss W hH hblk hsz => callsIn_wide.2 (AnyM.slices_Sort_string Tryz.sortM blk off cap ss W hH hblk hsz),
 fun p cap W => callsIn_wide.2 (AnyM.slices_Sort_string_none Tryz.sortM p cap W)⟩
theorem keys_any (mb : Option Nat) (W : World) : Calls Tryz.prog 172 #[.map mb] W fun e w' => e = .returned (.func (.func 197) #[] #[.pointer (some ⟨W.heap.size, 0, none⟩)]) ∧ w' = W.alloc (.cells #[.map mb] 201) :=
 (callsIn_wide (n := 5)).1 (AnyZ.keys_in Tryz.keysL Fence.wide 5 trivial rfl mb W)
def GivesK (w w' : World) (e : Ending) (T : List (List UInt8)) : Prop := ∃ v, e = .returned v ∧ w'.ownsRow w.heap.size 9 1 v T.length (T.map encStr) ∧ Below w.heap.size w w'
set_option maxHeartbeats 1000000 in
theorem sortedKeys_any {H : Type} (b nn : Nat) (D0 : DataW H) (R : Value → Option (DataW H × List MemPlace)) (w : World) (hown : w.ownsMap Tryz.prog 9 R b nn D0) (hmax : Maps.size D0 ≤ maxLen) (hbytes : Maps.size D0 * 16 ≤ 140737488355328) :
  Calls Tryz.prog 121 #[.func (.func 197) #[] #[.pointer (some ⟨w.heap.size, 0, none⟩)]] (w.alloc (.cells #[.map (some b)] 201)) fun e w' => ∃ ss : List (List UInt8), ss.Perm (strKeys D0) ∧ GivesK (w.alloc (.cells #[.map (some b)] 201)) w' e (ss.mergeSort leB) := by
 have hbl := hown.lt
 have hseq : SeqGives Fence.wide 2 Tryz.prog 197 #[.pointer (some ⟨w.heap.size, 0, none⟩)] encStr (fun ss => ss.Perm (strKeys D0)) (Maps.size D0) (w.alloc (.cells #[.map (some b)] 201)) :=
  AnyZ.keys_gives (ρ := Tryz.keysL_ren) { Tryz.keysL with } Fence.wide _ trivial rfl (by omega) w.heap.size b nn D0 _ (by simp) (by simp) (by
   obtain ⟨es, clock, hb, Ft, hs, hD⟩ := hown
   exact ⟨es, clock, (Below.heap_alloc _ _ b hbl).trans hb, Ft, hs, hD⟩)
 have h := AnyZ.sorted_in Tryz.sortedM Fence.wide 5 trivial trivial trivial trivial rfl (by omega) (sorts_in _) (enters_of Tryz.func158 (by kernel_rfl) rfl) 197 #[.pointer (some ⟨w.heap.size, 0, none⟩)] trivial (enters_of Tryz.func197 (by kernel_rfl) rfl) _ _ hmax hbytes _ hseq
 refine ((callsIn_wide (n := 5)).1 h).mono ?_
 rintro e w' ⟨v, ss, rfl, hS, hrow, _, hb⟩
 refine ⟨ss, hS, v, rfl, ?_, hb⟩
 have e1 : (ss.mergeSort leB).length = ss.length := (List.mergeSort_perm ss leB).length_eq
 rw [e1]
 exact hrow
end Go.Proofs.YtmbkmpeongodbaaGreat.K
namespace Go.Proofs.YtmbkmpeongodbaaGreat.K
open Go.RowKit

def cntF (n : Nat) (l : Array Bool) : Nat := (List.range n).countP (fun i => !l.getD i true)
theorem countP_less {p q : Nat → Bool} {i : Nat} : ∀ {xs : List Nat}, (∀ j, q j = true → p j = true) → i ∈ xs → p i = true → q i = false → xs.countP q < xs.countP p
 | [], _, h, _, _ => by cases h
 | x :: xs, hpq, h, hp, hq => by
  have hle : xs.countP q ≤ xs.countP p := List.countP_mono_left (fun j _ => hpq j)
  rcases List.mem_cons.1 h with rfl | h
  ·rw [List.countP_cons_of_neg (by simp [hq]), List.countP_cons_of_pos (by simp [hp])]; omega
  ·have := countP_less hpq h hp hq
   rw [List.countP_cons, List.countP_cons]
   have hx := hpq x
   cases hqx : q x with
   | true => simp [hx hqx]; exact this
   | false => cases p x <;> simp <;> omega
theorem ready_mem {md : Region.Mode} {ops : Array Oper} {l : Array Bool} {i : Nat} (h : i ∈ Region.ready md ops l) : i < ops.size ∧ l.getD i true = false ∧ ∀ o, ops[i]? = some o → ∀ e ∈ o.after, Region.binds md e = true → l.getD e.on false = true := by
 unfold Region.ready at h
 rw [List.mem_filter, List.mem_range] at h
 obtain ⟨h1, h2⟩ := h
 simp only [Bool.and_eq_true, Bool.not_eq_true'] at h2
 refine ⟨h1, h2.1, fun o ho e he hb => ?_⟩
 have h3 := h2.2
 rw [ho] at h3
 simp only [Option.map_some, Option.getD_some] at h3
 have := Array.all_eq_true'.1 h3 e he
 simpa [hb] using this
theorem ready_nil {md : Region.Mode} {ops : Array Oper} {l : Array Bool} (h : cntF ops.size l = 0) : Region.ready md ops l = [] := by
 unfold Region.ready
 rw [List.filter_eq_nil_iff]
 intro i hi
 have := List.countP_eq_zero.1 h i hi
 simp at this
 simp [this]
theorem wpAny_inv {P : Program} {md : Region.Mode} {ops : Array Oper} {Q : Exit → Act → World → Prop} (I : Array Bool → Act → World → Prop) (hz : ∀ l a w, I l a w → l.size = ops.size)
  (hs : ∀ l a w, I l a w → ∀ i, i ∈ Region.ready md ops l → wpOp P ops Q i (fun a' w' => I (l.setIfInBounds i true) a' w') a w)
  (he : ∀ l a w, I l a w → Region.ready md ops l = [] → Q .normal a w) :
  ∀ (fuel : Nat) (l : Array Bool) (a : Act) (w : World), I l a w → cntF ops.size l ≤ fuel → wpAny P md ops Q fuel l a w
 | 0, l, a, w, h, hf => ⟨ready_nil (by omega), he l a w h (ready_nil (by omega))⟩
 | fuel + 1, l, a, w, h, hf => by
  refine ⟨he l a w h, fun i hi => wpOp_mono (fun a' w' h' => ?_) (hs l a w h i hi)⟩
  refine wpAny_inv I hz hs he fuel _ a' w' h' ?_
  obtain ⟨h1, h2, _⟩ := ready_mem hi
  have hl := hz l a w h
  have : cntF ops.size (l.setIfInBounds i true) < cntF ops.size l := by
   unfold cntF
   refine countP_less (i := i) (fun j hj => ?_) (List.mem_range.2 h1) (by simp only [h2]; rfl) ?_
   ·by_cases e : i = j
    ·subst e
     simp [Array.getD, hl, h1] at hj
    ·simpa [Array.getD_eq_getD_getElem?, Array.getElem?_setIfInBounds, e] using hj
   ·simp [Array.getD, hl, h1]
  omega
theorem wp_region_inv {P : Program} {ops : Array Oper} {Q : Exit → Act → World → Prop} {id : Nat} {a : Act} {w : World} (hm : P.follows .mixedOrders = true) (I : Array Bool → Act → World → Prop) (h0 : I (Array.replicate ops.size false) a w.drew) (hz : ∀ l a w, I l a w → l.size = ops.size)
  (hs : ∀ l a w, I l a w → ∀ i, i ∈ Region.ready .any ops l → wpOp P ops Q i (fun a' w' => I (l.setIfInBounds i true) a' w') a w)
  (he : ∀ l a w, I l a w → Region.ready .any ops l = [] → Q .normal a w) : (Code.region id ops true).wp P Q a w :=
 wp_region_any hm (wpAny_inv I hz hs he _ _ _ _ h0 (by unfold cntF; have := List.countP_le_length (p := fun i => !(Array.replicate ops.size false).getD i true) (l := List.range ops.size); simpa using this))
def backward (ops : Array Oper) : Bool := (List.range ops.size).all fun i => ((ops[i]?).map fun o => o.after.all fun e => !Region.binds .any e || decide (e.on < i)).getD true
theorem ready_done {ops : Array Oper} {l : Array Bool} (hb : backward ops = true) (hz : l.size = ops.size) (h : Region.ready .any ops l = []) : ∀ i, i < ops.size → l.getD i false = true := by
 intro i
 induction i using Nat.strongRecOn with
 | _ i ih =>
  intro hi
  unfold Region.ready at h
  rw [List.filter_eq_nil_iff] at h
  have h1 := h i (List.mem_range.2 hi)
  have h2 := List.all_eq_true.1 hb i (List.mem_range.2 hi)
  rw [Array.getElem?_eq_getElem hi] at h1 h2
  simp only [Option.map_some, Option.getD_some] at h1 h2
  have h3 : (ops[i].after.all fun e => !Region.binds .any e || l.getD e.on false) = true := by
   rw [Array.all_eq_true']
   intro e he
   have := Array.all_eq_true'.1 h2 e he
   cases hb : Region.binds .any e with
   | false => simp
   | true =>
    simp only [hb, Bool.not_true, Bool.false_or, decide_eq_true_eq] at this
    rw [ih e.on this (by omega)]
    simp
  rw [h3] at h1
  have hl : i < l.size := by omega
  simp [Array.getD, hl] at h1 ⊢
  exact h1
theorem set_same {l : Array Bool} {i : Nat} (h : i < l.size) : (l.setIfInBounds i true).getD i false = true := by simp [Array.getD, h]
theorem set_other {l : Array Bool} {i j : Nat} (h : i ≠ j) : (l.setIfInBounds i true).getD j false = l.getD j false := by simp [Array.getD_eq_getD_getElem?, h]
theorem no_true {l : Array Bool} {i : Nat} (h : l.getD i true = false) : l.getD i false = false := by
 rw [Array.getD_eq_getD_getElem?] at h ⊢
 cases hq : l[i]? with
 | none => rw [hq] at h; cases h
 | some x => rw [hq] at h; exact h
theorem rep_false (n i : Nat) : (Array.replicate n false).getD i false = false := by
 rw [Array.getD_eq_getD_getElem?, Array.getElem?_replicate]; split <;> rfl
structure VI (n : Nat) (ex : List Value) (l : Array Bool) (vs : List Value) : Prop where
 sz : l.size = n
 len : vs.length = ex.length
 val : ∀ i, i < ex.length → l.getD i false = true → vs.getD i undef = ex.getD i undef
theorem VI.start (n : Nat) (ex vs : List Value) (h : vs.length = ex.length) : VI n ex (Array.replicate n false) vs :=
 ⟨by simp, h, fun i _ h => by rw [rep_false] at h; cases h⟩
theorem VI.set {n : Nat} {ex vs : List Value} {l : Array Bool} (T : VI n ex l vs) (i : Nat) (_ : i < n) : VI n ex (l.setIfInBounds i true) (vs.set i (ex.getD i undef)) := by
 refine ⟨by simpa using T.sz, by simpa using T.len, fun j hj h => ?_⟩
 by_cases e : i = j
 ·subst e
  rw [List.getD_eq_getElem?_getD, List.getElem?_set_self (by rw [T.len]; exact hj)]; rfl
 ·rw [set_other e] at h
  rw [List.getD_eq_getElem?_getD, List.getElem?_set_ne e, ← List.getD_eq_getElem?_getD]
  exact T.val j hj h
end Go.Proofs.YtmbkmpeongodbaaGreat.K
namespace Go.Proofs.YtmbkmpeongodbaaGreat.K
open Go.RowKit Go.Maps Go.Sort
attribute [local go_sem ↓] ld28_eq st28_eq
attribute [local go_sem] zero_EC cells_EV EC_size LC_size
theorem law9 : Keyed Tryz.prog 9 := string_keyed Tryz.underlying9
theorem zeroL (w : World) : (zeroValue 53).run Tryz.prog w = .ok (LV ln0) w := Tryz.zeroValue53 w
def MapI (w : World) (b k : Nat) (L : List En) : Prop := ∃ D, w.ownsMap Tryz.prog 9 RL b k D ∧ Mp D L
def GivesL (w w' : World) (e : Ending) (L : List En) : Prop := ∃ ao n c R er, e = .returned (.tuple #[.slice ao n c, .int .i64 er]) ∧ LSrc w' ao n c R ∧ Below w.heap.size w w' ∧ (∀ ad, ao = some ad → w.heap.size ≤ ad.block ∧ ad = ⟨ad.block, 0, none⟩) ∧ LinesOf L R er
theorem chk_01 (L : List En) : chk L = 0 ∨ chk L = 1 := by unfold chk; split <;> simp
theorem owns_below {w w' : World} {b k n : Nat} {D : DataW Ln} (h : w.ownsMap Tryz.prog 9 RL b k D) (hb : Below n w w') (hn : b < n) : w'.ownsMap Tryz.prog 9 RL b k D := by
 obtain ⟨es, c, h1, h2⟩ := h
 exact ⟨es, c, (hb.block b hn).trans h1, h2⟩
structure RegI (wk W : World) (b k : Nat) (D : DataW Ln) (e : En) (l0 : Ln) : Prop where
 own : W.ownsMap Tryz.prog 9 RL b (k + 1) (D.put (.string e.sku.data.toList) (.held (addL l0 e)))
 way : ∃ Wb, Below wk.heap.size wk Wb ∧ Wb.grownBy W (some b)
theorem RegI.back {w1 wk W : World} {k : Nat} {D : DataW Ln} {e : En} {l0 : Ln} (h : RegI wk W w1.heap.size k D e l0) (hb : Below w1.heap.size w1 wk) : Below w1.heap.size w1 W := by
 obtain ⟨Wb, b1, g1⟩ := h.way
 have h2 := hb.trans (b1.mono hb.size)
 exact h2.grown g1 h2.size (fun j hj => by cases hj; exact Nat.le_refl _)
theorem look_line {w : World} {b k : Nat} {D : DataW Ln} {L : List En} (h : w.ownsMap Tryz.prog 9 RL b k D) (hm : Mp D L) (s : ByteArray) (hs : s.size ≤ maxLen) : (Instr.lookup 201 (.map (some b)) (.string s) false).run Tryz.prog w = .ok (LV (lineOf L s)) w := by
 obtain ⟨v, ps, hr, hv⟩ := h.lookup law9 Tryz.underlying201 (zeroL w) (RL_line ln0) (Go.WideMaps.keyOf_string_mk Tryz.underlying9 hs)
 rw [hm.2 s] at hv
 rw [hr, RL_inv hv]
theorem put_line {wk W : World} {b k : Nat} {D : DataW Ln} {e : En} {l0 : Ln} (h : W.ownsMap Tryz.prog 9 RL b k D) (hk : k < maxLen) (hs : e.sku.size ≤ maxLen) (hb : Below wk.heap.size wk W) :
  ∃ W', (Instr.mapUpdate 201 (.map (some b)) (.string e.sku) (LV (addL l0 e))).run Tryz.prog W = .ok () W' ∧ RegI wk W' b k D e l0 := by
 obtain ⟨W', hr, ho, hg⟩ := h.update law9 Tryz.underlying201 hk (Go.WideMaps.keyOf_string_mk Tryz.underlying9 hs) (RL_line (addL l0 e))
 exact ⟨W', hr, ho, W, hb, hg⟩
def TSrc (w : World) (ao : Option Addr) (m : Nat) (T : List (List UInt8)) : Prop :=
 T.length = m ∧ ∀ t, t < m → ∃ ad, ao = some ad ∧ w.cell? (ad.add t) = some (encStr (T.getD t []))
theorem TSrc.below {w w' : World} {ao : Option Addr} {m : Nat} {T : List (List UInt8)} (h : TSrc w ao m T) (hb : Below w.heap.size w w') : TSrc w' ao m T := by
 refine ⟨h.1, fun t ht => ?_⟩
 obtain ⟨ad, e, hc⟩ := h.2 t ht
 exact ⟨ad, e, (hb.cell (World.block_lt_of_cell? _ _ hc)).trans hc⟩
theorem GivesK.src {w w' : World} {e : Ending} {T : List (List UInt8)} (h : GivesK w w' e T) : ∃ ao c, e = .returned (.slice ao T.length c) ∧ TSrc w' ao T.length T ∧ Below w.heap.size w w' := by
 obtain ⟨v, rfl, hr, hb⟩ := h
 rcases hr.2 with ⟨h0, h00⟩ | ⟨g, cap, cur, hv, hbg, hgg, hnc, hcm, hcsz, htake⟩
 ·refine ⟨none, 0, by rw [h0, h00], ⟨rfl, fun t ht => ?_⟩, hb⟩
  omega
 ·subst hv
  refine ⟨some ⟨g, 0, none⟩, cap, rfl, ⟨rfl, fun t ht => ⟨_, rfl, ?_⟩⟩, hb⟩
  rw [Addr.add_lit, Nat.zero_add, hr.cellAt t (by omega)]
  simp [List.getD, ht]
theorem OwnL.form {B0 B : Nat} {w w' : World} {ao : Option Addr} {cap : Nat} {acc : List Ln} (O : OwnL B0 B w w' ao cap acc) (ad : Addr) (h : ao = some ad) : ad = ⟨ad.block, 0, none⟩ := by
 subst h
 rcases O.own.2 with ⟨h, _⟩ | ⟨g, cap2, cur, hv, _⟩
 ·cases h
 ·simp only [Value.slice.injEq, Option.some.injEq] at hv
  rw [hv.1]
theorem take_snocL (L : List Ln) (k : Nat) (h : k < L.length) : L.take (k + 1) = L.take k ++ [L.getD k ln0] := by
 rw [List.take_succ_eq_append_getElem h]; simp [List.getD, h]
set_option maxRecDepth 100000 in
set_option maxHeartbeats 8000000 in
theorem lines_any (ao : Option Addr) (n cap : Nat) (L : List En) (w : World) (hS : ESrc w ao n cap L) :
  Calls Tryz.prog 145 #[.slice ao n cap] w fun e w' => GivesL w w' e L := by
 have HS := hide hS
 have HL : Hid (L.length = n) := hS.1
 have hn := hS.2.2.2.2
 clear hS
 have hmm := @run_makeMap Tryz.prog
 go_enter Tryz.func145, Tryz.ntmps145
 go_wp2_with fail
 refine (lcheck_any ao n cap L _ HS.out).mono ?_
 rintro x w1 ⟨rfl, b1⟩
 have B1 := hide b1
 have S1 := hide (HS.out.below b1)
 clear b1
 rcases chk_01 L with h | h
 ·rw [h]
  have HC := hide h
  have HA := hide (chk_all h)
  have hlen := chk_len h
  rw [HL.out] at hlen
  clear h
  go_wp2_with fail
  go_loopw [19] (fun i wr => ∃ k : Nat, k ≤ n ∧ i = .int .i64 k ∧ Hid (MapI wr w1.heap.size k (L.take k)) ∧ Hid (Below w1.heap.size w1 wr)) (fun i _ => n - (intOf i).toNat)
  case atStart => exact ⟨0, Nat.zero_le _, rfl, ⟨_, World.ownsMap_made _ _ _ _, mp_start⟩, below_new _ _⟩
  case round =>
   obtain ⟨k, hk, rfl, HM, HB⟩ := hrel
   by_cases hlt : k < n
   ·obtain ⟨ad, rfl, A0⟩ := (S1.out.below HB.out).at k hlt
    have hld := run_ld28 A0
    have HT1 := hide (take_snoc L k (by rw [HL.out]; exact hlt))
    have hsk := HS.out.sku k hlt
    have hqe := HA.out (L.getD k en0) (by rw [show L.getD k en0 = L[k]'(by rw [HL.out]; exact hlt) by simp [List.getD, HL.out, hlt]]; exact List.getElem_mem _)
    obtain ⟨e, He⟩ : ∃ e, Hid (L.getD k en0 = e) := ⟨_, rfl⟩
    rw [He.out] at hld A0 HT1 hsk hqe
    obtain ⟨wk, hst, X1, B1', Z1⟩ := made wr e wr.heap.size rfl
    have HX := hide X1
    have HBK := hide (HB.out.trans (B1'.mono HB.out.size))
    obtain ⟨D, hown, hmp⟩ := HM.out
    obtain ⟨l0, Hl0⟩ : ∃ l0, Hid (lineOf (L.take k) e.sku = l0) := ⟨_, rfl⟩
    have hok : AllOk (L.take k) := fun x hx => HA.out x (List.mem_of_mem_take hx)
    have hbd := line_bd (L.take k) hok e.sku
    have htl : (L.take k).length = k := by rw [List.length_take, HL.out]; omega
    rw [Hl0.out, htl] at hbd
    have HQ : Hid ((0 ≤ l0.qty ∧ l0.qty ≤ 16000000000000000) ∧ (0 ≤ l0.parts ∧ l0.parts ≤ 16000000000) ∧ (1 ≤ e.qty ∧ e.qty ≤ 1000000)) := ⟨by omega, by omega, hqe⟩
    have hownk := owns_below hown B1' hown.lt
    have HLK : Hid (∀ W, Below wk.heap.size wk W → (Instr.lookup 201 (.map (some w1.heap.size)) (.string e.sku) false).run Tryz.prog W = .ok (LV l0) W) := fun W hW => by
     have := look_line (owns_below hownk hW hownk.lt) hmp e.sku hsk
     rwa [Hl0.out] at this
    have HUP : Hid (∀ W, Below wk.heap.size wk W → ∃ W', (Instr.mapUpdate 201 (.map (some w1.heap.size)) (.string e.sku) (LV (addL l0 e))).run Tryz.prog W = .ok () W' ∧ RegI wk W' w1.heap.size k D e l0) := fun W hW =>
     put_line (owns_below hownk hW hownk.lt) (by unfold maxLen; omega) hsk hW
    have HMP : Hid (Mp (D.put (.string e.sku.data.toList) (.held (addL l0 e))) (L.take k ++ [e])) := by have := mp_step hmp hown.isMap e; rw [Hl0.out] at this; exact this
    clear X1 B1' A0 Z1 hown hmp hok hbd htl hsk hqe hownk
    go_wp2_with fail
    clear hst hld
    obtain ⟨ex, Hex⟩ : ∃ ex, Hid (ex = [Value.map (some w1.heap.size), .pointer (some ⟨wr.heap.size, 2, none⟩), .string e.sku, .map (some w1.heap.size), .pointer (some ⟨wr.heap.size, 2, none⟩), .string e.sku, LV l0, EV e, LV (addL l0 e)]) := ⟨_, rfl⟩
    refine wp_region_inv (by kernel_rfl) (fun l x W => ∃ v0 v1 v2 v3 v4 v5 v6 v7 v8, x = { tmps := #[Value.slice (some ad) n cap, undef, Value.slice none 0 0, Value.int IntKind.i64 0, Value.int IntKind.i64 0, Value.map (some w1.heap.size), undef, Value.pointer (some { block := wr.heap.size, off := 0 }), undef, undef, undef, Value.slice (some ad) n cap, Value.int IntKind.i64 0, Value.int IntKind.i64 0, Value.bool false, undef, Value.map (some w1.heap.size), Value.slice (some ad) n cap, Value.int IntKind.i64 ↑n, Value.int IntKind.i64 ↑k, Value.bool true, Value.pointer (some (ad.add (k * 4))), EV e, v0, v1, v2, v3, v4, v5, v6, v7, v8, u32, undef, undef, undef, undef, undef, undef, undef, undef, undef, undef, undef, undef, undef, undef, undef, undef], defers := [] } ∧ VI 10 ex l [v0, v1, v2, v3, v4, v5, v6, v7, v8] ∧ (l.getD 9 false = false → Below wk.heap.size wk W) ∧ (l.getD 9 false = true → (∀ i, i < 9 → l.getD i false = true) ∧ RegI wk W w1.heap.size k D e l0)) ?_ ?_ ?_ ?_
    ·exact ⟨u23, u24, u25, u26, u27, u28, u29, u30, u31, rfl, VI.start 10 ex _ (by rw [Hex.out]; rfl), fun _ => ⟨rfl, rfl, rfl, Nat.le_refl _, fun _ _ => rfl⟩, (fun h => by rw [rep_false] at h; cases h)⟩
    ·rintro l x W ⟨v0, v1, v2, v3, v4, v5, v6, v7, v8, rfl, T, _, _⟩
     exact T.sz
    ·rintro l x W ⟨v0, v1, v2, v3, v4, v5, v6, v7, v8, rfl, T, hb, hf⟩ i hi
     obtain ⟨hi1, hi2, hi3⟩ := ready_mem hi
     have hi4 := no_true hi2
     have n9 : l.getD 9 false = false := by
      cases h9 : l.getD 9 false with
      | false => rfl
      | true =>
       by_cases h : i = 9
       ·subst h; rw [hi4] at h9; cases h9
       ·have := (hf h9).1 i (by have h' : i < 10 := hi1; omega); rw [hi4] at this; cases this
     have HBW := hide (hb n9)
     have HT := hide T
     have HN9 := hide n9
     clear hb hf
     have hc : i = 0 ∨ i = 1 ∨ i = 2 ∨ i = 3 ∨ i = 4 ∨ i = 5 ∨ i = 6 ∨ i = 7 ∨ i = 8 ∨ i = 9 := by have h : i < 10 := hi1; omega
     rcases hc with rfl | rfl | rfl | rfl | rfl | rfl | rfl | rfl | rfl | rfl
     ·clear hi hi1 hi2 hi3 hi4 T n9
      refine wpOp_step (o := ⟨some 23, .move (.tmp 5), 201, "lines.go:18", #[], none⟩) rfl (fun K hK => ?_)
      go_simp
      exact hK _ _ ⟨Value.map (some w1.heap.size), _, _, _, _, _, _, _, _, rfl, by have h := HT.out.set 0 (by decide); rw [Hex.out] at h ⊢; exact h, fun _ => HBW.out, (fun h => by rw [set_other (by decide), HN9.out] at h; cases h)⟩
     ·clear hi hi1 hi2 hi3 hi4 T n9
      refine wpOp_step (o := ⟨some 24, .fieldAddr 46 (.tmp 7) 1, 0, "lines.go:18", #[], none⟩) rfl (fun K hK => ?_)
      go_simp
      exact hK _ _ ⟨_, Value.pointer (some ⟨wr.heap.size, 2, none⟩), _, _, _, _, _, _, _, rfl, by have h := HT.out.set 1 (by decide); rw [Hex.out] at h ⊢; exact h, fun _ => HBW.out, (fun h => by rw [set_other (by decide), HN9.out] at h; cases h)⟩
     ·have d1 := hi3 _ rfl { on := 1, ground := Ground.data } (by simp) rfl
      have e1 : v1 = Value.pointer (some ⟨wr.heap.size, 2, none⟩) := by have h := HT.out.val 1 (by rw [Hex.out]; simp) d1; rw [Hex.out] at h; exact h
      subst e1
      have c1 : W.cell? ⟨wr.heap.size, 2, none⟩ = some (.string e.sku) := by have h := (HX.out.below HBW.out).at.c2; simpa [Addr.add] using h
      clear hi hi1 hi2 hi3 hi4 T n9
      refine wpOp_step (o := ⟨some 25, .load 9 (.tmp 24), 9, "lines.go:18", #[⟨1, .data⟩], none⟩) rfl (fun K hK => ?_)
      go_simp
      exact hK _ _ ⟨_, _, Value.string e.sku, _, _, _, _, _, _, rfl, by have h := HT.out.set 2 (by decide); rw [Hex.out] at h ⊢; exact h, fun _ => HBW.out, (fun h => by rw [set_other (by decide), HN9.out] at h; cases h)⟩
     ·clear hi hi1 hi2 hi3 hi4 T n9
      refine wpOp_step (o := ⟨some 26, .move (.tmp 5), 201, "lines.go:18", #[], none⟩) rfl (fun K hK => ?_)
      go_simp
      exact hK _ _ ⟨_, _, _, Value.map (some w1.heap.size), _, _, _, _, _, rfl, by have h := HT.out.set 3 (by decide); rw [Hex.out] at h ⊢; exact h, fun _ => HBW.out, (fun h => by rw [set_other (by decide), HN9.out] at h; cases h)⟩
     ·clear hi hi1 hi2 hi3 hi4 T n9
      refine wpOp_step (o := ⟨some 27, .fieldAddr 46 (.tmp 7) 1, 0, "lines.go:18", #[], none⟩) rfl (fun K hK => ?_)
      go_simp
      exact hK _ _ ⟨_, _, _, _, Value.pointer (some ⟨wr.heap.size, 2, none⟩), _, _, _, _, rfl, by have h := HT.out.set 4 (by decide); rw [Hex.out] at h ⊢; exact h, fun _ => HBW.out, (fun h => by rw [set_other (by decide), HN9.out] at h; cases h)⟩
     ·have d4 := hi3 _ rfl { on := 4, ground := Ground.data } (by simp) rfl
      have e4 : v4 = Value.pointer (some ⟨wr.heap.size, 2, none⟩) := by have h := HT.out.val 4 (by rw [Hex.out]; simp) d4; rw [Hex.out] at h; exact h
      subst e4
      have c1 : W.cell? ⟨wr.heap.size, 2, none⟩ = some (.string e.sku) := by have h := (HX.out.below HBW.out).at.c2; simpa [Addr.add] using h
      clear hi hi1 hi2 hi3 hi4 T n9
      refine wpOp_step (o := ⟨some 28, .load 9 (.tmp 27), 9, "lines.go:18", #[⟨4, .data⟩], none⟩) rfl (fun K hK => ?_)
      go_simp
      exact hK _ _ ⟨_, _, _, _, _, Value.string e.sku, _, _, _, rfl, by have h := HT.out.set 5 (by decide); rw [Hex.out] at h ⊢; exact h, fun _ => HBW.out, (fun h => by rw [set_other (by decide), HN9.out] at h; cases h)⟩
     ·have d3 := hi3 _ rfl { on := 3, ground := Ground.data } (by simp) rfl
      have e3 : v3 = Value.map (some w1.heap.size) := by have h := HT.out.val 3 (by rw [Hex.out]; simp) d3; rw [Hex.out] at h; exact h
      subst e3
      have d5 := hi3 _ rfl { on := 5, ground := Ground.data } (by simp) rfl
      have e5 : v5 = Value.string e.sku := by have h := HT.out.val 5 (by rw [Hex.out]; simp) d5; rw [Hex.out] at h; exact h
      subst e5
      have hlk := HLK.out W HBW.out
      clear hi hi1 hi2 hi3 hi4 T n9
      refine wpOp_step (o := ⟨some 29, .lookup 201 (.tmp 26) (.tmp 28) false, 53, "lines.go:18", #[⟨3, .data⟩, ⟨5, .data⟩], none⟩) rfl (fun K hK => ?_)
      go_simp
      exact hK _ _ ⟨_, _, _, _, _, _, LV l0, _, _, rfl, by have h := HT.out.set 6 (by decide); rw [Hex.out] at h ⊢; exact h, fun _ => HBW.out, (fun h => by rw [set_other (by decide), HN9.out] at h; cases h)⟩
     ·have hl := run_ld28 (HX.out.below HBW.out).at
      clear hi hi1 hi2 hi3 hi4 T n9
      refine wpOp_step (o := ⟨some 30, .load 46 (.tmp 7), 46, "lines.go:18", #[], none⟩) rfl (fun K hK => ?_)
      go_simp
      exact hK _ _ ⟨_, _, _, _, _, _, _, EV e, _, rfl, by have h := HT.out.set 7 (by decide); rw [Hex.out] at h ⊢; exact h, fun _ => HBW.out, (fun h => by rw [set_other (by decide), HN9.out] at h; cases h)⟩
     ·have d6 := hi3 _ rfl { on := 6, ground := Ground.data } (by simp) rfl
      have e6 : v6 = LV l0 := by have h := HT.out.val 6 (by rw [Hex.out]; simp) d6; rw [Hex.out] at h; exact h
      subst e6
      have d7 := hi3 _ rfl { on := 7, ground := Ground.data } (by simp) rfl
      have e7 : v7 = EV e := by have h := HT.out.val 7 (by rw [Hex.out]; simp) d7; rw [Hex.out] at h; exact h
      subst e7
      clear hi hi1 hi2 hi3 hi4 T n9
      refine wpOp_step (o := ⟨some 31, .call ⟨.value (.func 48), #[.tmp 29, .tmp 30], #[53, 46]⟩, 53, "lines.go:18", #[⟨6, .data⟩, ⟨7, .data⟩], none⟩) rfl (fun K hK => ?_)
      go_simp
      go_wp2_with fail
      refine (with_any l0 e _ HQ.out.1 HQ.out.2.1 HQ.out.2.2).mono ?_
      rintro y w' ⟨rfl, b'⟩
      exact hK _ _ ⟨_, _, _, _, _, _, _, _, LV (addL l0 e), rfl, by have h := HT.out.set 8 (by decide); rw [Hex.out] at h ⊢; exact h, fun _ => HBW.out.trans (b'.mono HBW.out.size), (fun h => by rw [set_other (by decide), HN9.out] at h; cases h)⟩
     ·have d0 := hi3 _ rfl { on := 0, ground := Ground.data } (by simp) rfl
      have e0 : v0 = Value.map (some w1.heap.size) := by have h := HT.out.val 0 (by rw [Hex.out]; simp) d0; rw [Hex.out] at h; exact h
      subst e0
      have d2 := hi3 _ rfl { on := 2, ground := Ground.data } (by simp) rfl
      have e2 : v2 = Value.string e.sku := by have h := HT.out.val 2 (by rw [Hex.out]; simp) d2; rw [Hex.out] at h; exact h
      subst e2
      have d8 := hi3 _ rfl { on := 8, ground := Ground.data } (by simp) rfl
      have e8 : v8 = LV (addL l0 e) := by have h := HT.out.val 8 (by rw [Hex.out]; simp) d8; rw [Hex.out] at h; exact h
      subst e8
      have hall : ∀ i, i < 9 → l.getD i false = true := fun i h => by
       have hc : i = 0 ∨ i = 1 ∨ i = 2 ∨ i = 3 ∨ i = 4 ∨ i = 5 ∨ i = 6 ∨ i = 7 ∨ i = 8 := by omega
       rcases hc with rfl | rfl | rfl | rfl | rfl | rfl | rfl | rfl | rfl
       ·exact hi3 _ rfl { on := 0, ground := Ground.phase } (by simp) rfl
       ·exact hi3 _ rfl { on := 1, ground := Ground.phase } (by simp) rfl
       ·exact hi3 _ rfl { on := 2, ground := Ground.phase } (by simp) rfl
       ·exact hi3 _ rfl { on := 3, ground := Ground.phase } (by simp) rfl
       ·exact hi3 _ rfl { on := 4, ground := Ground.phase } (by simp) rfl
       ·exact hi3 _ rfl { on := 5, ground := Ground.phase } (by simp) rfl
       ·exact hi3 _ rfl { on := 6, ground := Ground.phase } (by simp) rfl
       ·exact hi3 _ rfl { on := 7, ground := Ground.phase } (by simp) rfl
       ·exact hi3 _ rfl { on := 8, ground := Ground.phase } (by simp) rfl
      have HALL := hide hall
      obtain ⟨W', hup, hR⟩ := HUP.out W HBW.out
      have HR := hide hR
      clear hR hi hi1 hi2 hi3 hi4 T n9 hall d0 d2 d8
      refine wpOp_step (o := ⟨none, .mapUpdate 201 (.tmp 23) (.tmp 25) (.tmp 31), 0, "lines.go:18", #[⟨0, .data⟩, ⟨2, .data⟩, ⟨8, .data⟩, ⟨8, .chain⟩, ⟨0, .phase⟩, ⟨1, .phase⟩, ⟨2, .phase⟩, ⟨3, .phase⟩, ⟨4, .phase⟩, ⟨5, .phase⟩, ⟨6, .phase⟩, ⟨7, .phase⟩, ⟨8, .phase⟩], none⟩) rfl (fun K hK => ?_)
      go_simp
      exact hK _ _ ⟨_, _, _, _, _, _, _, _, _, rfl, by have h := HT.out.set 9 (by decide); rw [Hex.out] at h ⊢; exact h, (fun h => by rw [set_same (by rw [HT.out.sz]; decide)] at h; cases h), fun _ => ⟨fun i hi => by rw [set_other (by omega)]; exact HALL.out i hi, HR.out⟩⟩
    ·rintro l x W ⟨v0, v1, v2, v3, v4, v5, v6, v7, v8, rfl, T, hb, hf⟩ hnil
     have h9 := ready_done (by kernel_rfl) T.sz hnil 9 (by decide)
     obtain ⟨_, hR⟩ := hf h9
     have hM := hR.own
     have hBB := hR.back HBK.out
     have HM2 : Hid (MapI W w1.heap.size (k + 1) (L.take (k + 1))) := by show MapI _ _ _ _; rw [HT1.out]; exact ⟨_, hM, HMP.out⟩
     have HB2 : Hid (Below w1.heap.size w1 W) := hBB
     clear T hb hf hnil h9 hR hM hBB
     go_wp2_with fail
     go_roundw
     case rel => exact ⟨k + 1, by omega, by go_num, HM2, HB2⟩
     case measure => simp [intOf]; omega
   ·obtain rfl : k = n := by omega
    have htk : L.take k = L := List.take_of_length_le (by rw [HL.out]; exact Nat.le_refl _)
    obtain ⟨D, hown, hmp⟩ := HM.out
    rw [htk] at hmp
    have HO := hide hown
    have HMP := hide hmp
    have hsz := hown.size_le
    have HZ : Hid (Maps.size D ≤ maxLen ∧ Maps.size D * 16 ≤ 140737488355328) := ⟨by unfold maxLen; omega, by omega⟩
    clear hown hmp hsz htk HM
    go_wp2_with fail
    refine (keys_any _ _).mono ?_
    rintro y w2 ⟨rfl, rfl⟩
    go_wp2_with fail
    refine (sortedKeys_any w1.heap.size k D RL wr HO.out HZ.out.1 HZ.out.2).mono ?_
    rintro y w3 ⟨ss, hp, hg⟩
    obtain ⟨a3, c3, rfl, T3, b3⟩ := hg.src
    have HLO := hide (lines_of_keys HO.out law9 Tryz.underlying9 HMP.out HC.out hp)
    have hTl : (ss.mergeSort leB).length ≤ k := by
     have e1 := ((List.mergeSort_perm ss leB).trans hp).length_eq
     have e2 : (strKeys D).length = Maps.size D := by
      obtain ⟨es, hD⟩ := HO.out.isMap
      subst hD
      simp [strKeys, Maps.size]
     have e3 := HO.out.size_le
     omega
    obtain ⟨T, HT⟩ : ∃ T, Hid (ss.mergeSort leB = T) := ⟨_, rfl⟩
    rw [HT.out] at T3 HLO hTl ⊢
    have HT3 := hide T3
    have HB3 : Hid (Below w1.heap.size w1 w3) := (HB.out.trans ((below_new wr _).mono HB.out.size)).trans (b3.mono (by simp; have := HB.out.size; omega))
    have HO3 : Hid (w3.ownsMap Tryz.prog 9 RL w1.heap.size k D) := owns_below (HO.out.alloc _) b3 (by simp; have := HO.out.lt; omega)
    obtain ⟨m, Hm⟩ : ∃ m, Hid (T.length = m) := ⟨_, rfl⟩
    rw [Hm.out] at hTl ⊢
    have HTL : Hid (∀ j, j < m → (T.getD j []).length ≤ maxLen) := fun j hj => by
     refine strKeys_le HO.out Tryz.underlying9 _ (((List.mergeSort_perm ss leB).trans hp).mem_iff.1 ?_)
     rw [HT.out, show T.getD j [] = T[j]'(by rw [Hm.out]; exact hj) by simp [List.getD, Hm.out, hj]]
     exact List.getElem_mem _
    clear T3 b3 hg hp
    obtain ⟨R, HR⟩ : ∃ R, Hid (T.map (fun x => lineOf L ⟨x.toArray⟩) = R) := ⟨_, rfl⟩
    rw [HR.out] at HLO
    have HRl : Hid (R.length = m) := by show _ = _; rw [← HR.out, List.length_map, Hm.out]
    go_wp2_with fail
    go_loopw [8, 37] (fun v i wr2 => ∃ (j : Nat) (ap : Option Addr) (c : Nat), j ≤ m ∧ v = .slice ap j c ∧ i = .int .i64 j ∧ Hid (OwnL w3.heap.size w3.heap.size w3 wr2 ap c (R.take j))) (fun _ i _ => m - (intOf i).toNat)
    case atStart => exact ⟨0, none, 0, Nat.zero_le _, rfl, rfl, OwnL.nil (Below.refl _ _) (Nat.le_refl _) (Nat.le_refl _)⟩
    case round =>
     obtain ⟨j, ap, c, hj, rfl, rfl, HOL⟩ := hrel
     obtain ⟨acc, Hacc⟩ : ∃ acc, Hid (R.take j = acc) := ⟨_, rfl⟩
     rw [Hacc.out] at HOL
     have hal : acc.length = j := by rw [← Hacc.out, List.length_take, HRl.out]; omega
     by_cases hjl : j < m
     ·obtain ⟨ad3, rfl, hc3⟩ := (HT3.out.below HOL.out.below).2 j (by rw [Hm.out]; exact hjl)
      have hsl := HTL.out j hjl
      obtain ⟨s, Hs⟩ : ∃ s : ByteArray, Hid (s = ⟨(T.getD j []).toArray⟩) := ⟨_, rfl⟩
      have hes : encStr (T.getD j []) = .string s := by rw [Hs.out]
      rw [hes] at hc3
      have hss : s.size ≤ maxLen := by rw [Hs.out]; simpa [ByteArray.size] using hsl
      have hlk := look_line (owns_below HO3.out HOL.out.below HO3.out.lt) HMP.out s hss
      obtain ⟨l, Hl⟩ : ∃ l, Hid (lineOf L s = l) := ⟨_, rfl⟩
      rw [Hl.out] at hlk
      have HN : Hid (R.take (j + 1) = acc ++ [l]) := by
       show _ = _
       rw [take_snocL R j (by rw [HRl.out]; exact hjl), Hacc.out, ← HR.out, ← Hl.out, Hs.out]
       simp [List.getD, Hm.out, hjl]
      have O2 := HOL.out
      clear hsl hes hss
      go_wp2_with (at_builtin; refine O2.append l _ rfl (by omega) rfl (.tmp 41) (.tmp 45) rfl j hal rfl rfl ?_; intro g4 c4 w4 O4 hk4)
      go_roundw
      case rel => exact ⟨j + 1, some ⟨g4, 0, none⟩, c4, by omega, by simp, by go_num, by rw [HN.out]; exact O4⟩
      case measure => simp [intOf]; omega
     ·obtain rfl : j = m := by omega
      have HF : Hid (R = acc) := by show _ = _; rw [← Hacc.out, List.take_of_length_le (by rw [HRl.out]; exact Nat.le_refl _)]
      have hs : ∀ l ∈ acc, l.sku.size ≤ maxLen := fun l hl => by
       rw [← HF.out] at hl
       rcases HLO.out with ⟨h, _⟩ | ⟨_, _, _, hmem⟩
       ·exact absurd HC.out h
       ·obtain ⟨e, he, rfl⟩ := (hmem l).1 hl
        rw [line_sku L e he]
        exact HS.out.2.2.2.1 e he
      obtain ⟨S5, F5⟩ := HOL.out.src hs (by omega)
      rw [hal] at S5
      have HS5 := hide S5
      have HF5 := hide F5
      have HF6 := hide HOL.out.form
      clear S5 F5 hs
      have HW := hide ((B1.out.trans (HB3.out.mono B1.out.size)).trans (HOL.out.below.mono (Nat.le_trans B1.out.size HB3.out.size)))
      go_wp2_with fail
      go_ret2
      exact ⟨ap, j, c, acc, 0, rfl, HS5.out, HW.out, fun ad h => ⟨Nat.le_trans (Nat.le_trans B1.out.size HB3.out.size) (HF5.out ad h), HF6.out ad h⟩, by rw [← HF.out]; exact HLO.out⟩
 ·rw [h]
  have HC : Hid (chk L ≠ 0) := by show chk L ≠ 0; rw [h]; decide
  clear h
  go_wp2_with fail
  go_ret2
  exact ⟨none, 0, 0, [], 1, rfl, LSrc.none _, B1.out, (fun ad h => by cases h), Or.inl ⟨HC.out, rfl, rfl⟩⟩
end Go.Proofs.YtmbkmpeongodbaaGreat.K

