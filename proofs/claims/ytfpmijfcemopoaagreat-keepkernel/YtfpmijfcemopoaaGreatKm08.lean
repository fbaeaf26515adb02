/- KeepMerges: the law. -/
import Derived.Test.YtfpmijfcemopoaaGreatKb39
import Derived.Test.YtfpmijfcemopoaaGreatKm05
import Derived.Test.YtfpmijfcemopoaaGreatKm07
namespace Go.Proofs.YtfpmijfcemopoaaGreat
open Go.RowKit
attribute [local go_sem ↓] ldP_eq stP_eq
attribute [local go_sem] cells_PV PC_size cells_KsV KsC_size
set_option maxRecDepth 100000 in
set_option maxHeartbeats 6400000 in
theorem keepMerges_law (m : Ks) (A B : List K.En) (w : World) (hS : KsE w m A B) :
  Calls Tryz.prog 6 #[KsV m] w fun e w' => e = .returned (.bool true) ∧ Below w.heap.size w w' := by
 have HS := hide hS
 have HX := hide (KsBox_new w m)
 have HB := hide (below_new w (.cells (KsC m) 29))
 clear hS
 obtain ⟨wk, hwk⟩ : ∃ wk, w.alloc (.cells (KsC m) 29) = wk := ⟨_, rfl⟩
 obtain ⟨G, hG⟩ : ∃ G, w.heap.size = G := ⟨_, rfl⟩
 rw [hwk] at HX HB
 rw [hG] at HX
 go_enter Tryz.func6, Tryz.ntmps6
 go_wp2_with fail
 refine (fixed_any _).mono ?_
 rintro e w2 ⟨rfl, b2⟩
 have HK2 : Hid (BKc w w2 G m) := ⟨HX.out.below b2, HB.out.trans (b2.mono HB.out.size)⟩
 clear b2 HX HB hwk hG
 have a2 := HK2.out.box.a
 have c2 := HK2.out.box.b
 have p2 := run_ldP HK2.out.box.p
 have o2 := run_ldP HK2.out.box.o
 go_wp2_with fail
 clear a2 c2 p2 o2
 refine (merge_any m.ao m.bo m.an m.ac m.bn m.bc A B m.p m.o w2 (HS.out.a.below HK2.out.bel) (HS.out.b.below HK2.out.bel) (HS.out.p.below HK2.out.bel) (HS.out.o.below HK2.out.bel)).mono ?_
 rintro e w3 ⟨a3, n3, c3, Z, er, rfl, S3, b3, D3⟩
 have HK3 := hide (HK2.out.below b3)
 have HZ3 := hide S3
 have HD3 := hide D3
 clear S3 b3 D3 HK2
 have a2 := HK3.out.box.a
 have c2 := HK3.out.box.b
 have p2 := run_ldP HK3.out.box.p
 have o2 := run_ldP HK3.out.box.o
 go_wp2_with fail
 clear a2 c2 p2 o2
 refine (refMerge_any m.ao m.bo m.an m.ac m.bn m.bc A B m.p m.o w3 (HS.out.a.below HK3.out.bel) (HS.out.b.below HK3.out.bel) (HS.out.p.below HK3.out.bel) (HS.out.o.below HK3.out.bel)).mono ?_
 rintro e w4 ⟨a4, n4, c4, Z', er', rfl, S4, b4, D4⟩
 obtain ⟨rfl, rfl⟩ := HD3.out.one D4
 have HK4 := hide (HK3.out.below b4)
 have HZ3b := hide (HZ3.out.below b4)
 have HZ4 := hide S4
 clear S4 b4 D4 HK3 HZ3
 have hne : (er != er) = false := by simp
 go_wp2_with fail
 refine (sameEntries_any a3 a4 n3 n4 c3 c4 Z Z w4 HZ3b.out HZ4.out).mono ?_
 rintro e w5 ⟨x, rfl, hx, b5⟩
 obtain rfl : x = true := hx.2 rfl
 have HK5 := hide (HK4.out.below b5)
 have HZ5 := hide (HZ3b.out.below b5)
 clear hx b5 HK4 HZ3b HZ4 hne
 have a2 := HK5.out.box.a
 have c2 := HK5.out.box.b
 have p2 := run_ldP HK5.out.box.p
 have o2 := run_ldP HK5.out.box.o
 go_wp2_with fail
 clear a2 c2 p2 o2
 refine (merge_any m.bo m.ao m.bn m.bc m.an m.ac B A m.o m.p w5 (HS.out.b.below HK5.out.bel) (HS.out.a.below HK5.out.bel) (HS.out.o.below HK5.out.bel) (HS.out.p.below HK5.out.bel)).mono ?_
 rintro e w6 ⟨a6, n6, c6, Z', er', rfl, S6, b6, D6⟩
 obtain ⟨rfl, rfl⟩ := HD3.out.one D6.swap
 have HK6 := hide (HK5.out.below b6)
 have HZ6 := hide (HZ5.out.below b6)
 have HS6 := hide S6
 clear S6 b6 D6 HK5 HZ5 HD3
 have heq : (er == er) = true := by simp
 go_wp2_with fail
 refine (sameEntries_any a6 a3 n6 n3 c6 c3 Z Z w6 HS6.out HZ6.out).mono ?_
 rintro e w7 ⟨x, rfl, hx, b7⟩
 obtain rfl : x = true := hx.2 rfl
 have HK7 := hide (HK6.out.below b7)
 clear hx b7 HK6 HZ6 HS6 heq
 go_wp2_with fail
 go_ret
 exact ⟨rfl, HK7.out.bel⟩
end Go.Proofs.YtfpmijfcemopoaaGreat
