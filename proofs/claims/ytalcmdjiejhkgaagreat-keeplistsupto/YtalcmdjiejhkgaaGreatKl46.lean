/- HKl -/
import Derived.Test.YtalcmdjiejhkgaaGreatKl43
import Derived.Test.YtalcmdjiejhkgaaGreatKl45
import Derived.Test.YtalcmdjiejhkgaaGreatKl32
set_option maxRecDepth 100000
set_option maxHeartbeats 12800000
namespace Go.Proofs.YtalcmdjiejhkgaaGreat
open Go.RowKit
theorem ck_lt {x y : Rp} (h : cmpS x.1 y.1 < 0) : ck x y < 0 := by
 unfold ck
 rw [if_neg (by omega)]
 exact h
theorem fold_srt {R F : List Rc} (h : FoldOf R F) : Srt ck (plR F) := by
 show List.Pairwise _ (F.map _)
 rw [List.pairwise_map]
 exact h.1.imp fun k => ck_lt k
theorem fold_half {R F G : List Rc} (hF : FoldOf R F) (hG : FoldOf R G) : ∀ y ∈ plR F, y ∈ plR G := by
 intro y hy
 obtain ⟨f, hf, rfl⟩ := List.mem_map.1 hy
 obtain ⟨⟨r, hr, hrs⟩, ⟨C, hC, hc⟩, hE⟩ := hF.2.1 f hf
 apply Classical.byContradiction
 intro hn
 have h1 := hG.2.2 f.s ⟨r, hr, hrs⟩ (fun g hg hgs => hn (List.mem_map.2 ⟨g, hg, by
  obtain ⟨D, hD, hd⟩ := (hG.2.1 g hg).2.1
  rw [hgs] at hd ⊢
  rw [hD.unique hC (fun r hr n => by rw [hd r hr n, hc r hr n])]⟩))
 exact hE (fun r hr n hm => h1 r hr n ((hc r hr n).1 ((canon_mem hC r hr n).1 hm)))
theorem fold_one {R F G : List Rc} (hF : FoldOf R F) (hG : FoldOf R G) : plR F = plR G :=
 Srt.uniq ck_tot (fold_srt hF) (fold_srt hG) fun y => ⟨fold_half hF hG y, fold_half hG hF y⟩
def LsP (C : Prop) (Q : List Rc -> Prop) (z : Int) (F : List Rc) : Prop := (C /\ z = 0 /\ Q F) ∨ (¬ C /\ z = 1 /\ F = [])
theorem LsP.one {C : Prop} {Q : List Rc -> Prop} {z y : Int} {F G : List Rc} (h : LsP C Q z F) (k : LsP C Q y G) (u : ∀ F G, Q F -> Q G -> plR F = plR G) : z = y /\ plR F = plR G := by
 rcases h with ⟨h1, h2, h3⟩ | ⟨h1, h2, h3⟩ <;> rcases k with ⟨k1, k2, k3⟩ | ⟨k1, k2, k3⟩
 ·exact ⟨by rw [h2, k2], u _ _ h3 k3⟩
 ·exact absurd h1 k1
 ·exact absurd k1 h1
 ·exact ⟨by rw [h2, k2], by rw [h3, k3]⟩
def LsA (w w' : World) (x : Ending) (C : Prop) (Q : List Rc -> Prop) : Prop := ∃ (z : Int) (a : Option Addr) (n c : Nat) (F : List Rc), x = .returned (.tuple #[.slice a n c, .int .i64 z]) /\ RcS w' a n c F /\ Below w.heap.size w w' /\ LsP C Q z F
theorem unA_ls {w w' : World} {x : Ending} {L M : List Rc} {n m : Nat} (h : UnA w w' x L n M m) : LsA w w' x (OkR L n /\ OkR M m) (UnOf L M) := by
 rcases h with ⟨h1, h2, k, F, rfl, g, -, u⟩ | ⟨h1, rfl, b⟩
 ·exact ⟨0, k.o, k.n, k.c, F, rfl, g.src, g.below, .inl ⟨⟨h1, h2⟩, rfl, u⟩⟩
 ·exact ⟨1, none, 0, 0, [], rfl, RcS.empty _, b, .inr ⟨h1, rfl, rfl⟩⟩
theorem urA_ls {w w' : World} {x : Ending} {L M : List Rc} {n m : Nat} (h : UrA w w' x L n M m) : LsA w w' x (OkR L n /\ OkR M m) (UnOf L M) := by
 rcases h with ⟨h1, h2, k, F, rfl, g, -, -, b, u⟩ | ⟨h1, rfl, b⟩
 ·exact ⟨0, k.o, k.n, k.c, F, rfl, g.src, b, .inl ⟨⟨h1, h2⟩, rfl, u⟩⟩
 ·exact ⟨1, none, 0, 0, [], rfl, RcS.empty _, b, .inr ⟨h1, rfl, rfl⟩⟩
theorem wtA_ls {w w' : World} {x : Ending} {L : List Rc} {n : Nat} {P : Pst} (h : WtA w w' x L n P) : LsA w w' x (OkR L n /\ InForm P) (WtOf L P) := by
 rcases h with ⟨h1, h2, k, F, rfl, g, -, u⟩ | ⟨h1, rfl, b⟩
 ·exact ⟨0, k.o, k.n, k.c, F, rfl, g.src, g.below, .inl ⟨⟨h1, h2⟩, rfl, u⟩⟩
 ·exact ⟨1, none, 0, 0, [], rfl, RcS.empty _, b, .inr ⟨h1, rfl, rfl⟩⟩
theorem wrA_ls {w w' : World} {x : Ending} {L : List Rc} {n : Nat} {P : Pst} (h : WrA w w' x L n P) : LsA w w' x (OkR L n /\ InForm P) (WtOf L P) := by
 rcases h with ⟨h1, h2, k, F, rfl, g, -, -, b, u⟩ | ⟨h1, rfl, b⟩
 ·exact ⟨0, k.o, k.n, k.c, F, rfl, g.src, b, .inl ⟨⟨h1, h2⟩, rfl, u⟩⟩
 ·exact ⟨1, none, 0, 0, [], rfl, RcS.empty _, b, .inr ⟨h1, rfl, rfl⟩⟩
theorem foA_ls {w w' : World} {x : Ending} {L : List Rc} {n : Nat} (h : FoA w w' x L n) : LsA w w' x (OkR L n) (FoldOf L) := by
 rcases h with ⟨h1, k, F, rfl, g, b, -, u⟩ | ⟨h1, rfl, b⟩
 ·exact ⟨0, k.o, k.n, k.c, F, rfl, g, b, .inl ⟨h1, rfl, u⟩⟩
 ·exact ⟨1, none, 0, 0, [], rfl, RcS.empty _, b, .inr ⟨h1, rfl, rfl⟩⟩
attribute [local go_sem ↓] ldP_eq stP_eq ldRe_eq stRe_eq
attribute [local go_sem] cells_PV PC_size cells_KsV KsC_size zero_PC
theorem keepLists_law (m : Ks) (R Q : List Rc) (A B : List K.En) (w : World) (hS : KsT w m R Q A B) :
  Calls Tryz.prog 3 #[KsV m] w fun e w' => e = .returned (.bool true) /\ Below w.heap.size w w' := by
 have HS := hide hS
 have HX := hide (KsBox_new w m)
 have HB := hide (below_new w (.cells (KsC m) 29))
 have hrn : m.rn <= 209716 := by have := hS.1.sr.1; rw [hS.1.r.len] at this; exact this
 have hqn : m.qn <= 209716 := by have := hS.1.sq.1; rw [hS.1.q.len] at this; exact this
 have HRL : Hid (m.rn <= 209716 /\ m.qn <= 209716) := ⟨hrn, hqn⟩
 clear hS hrn hqn
 obtain ⟨wk, hwk⟩ : ∃ wk, w.alloc (.cells (KsC m) 29) = wk := ⟨_, rfl⟩
 obtain ⟨G, hG⟩ : ∃ G, w.heap.size = G := ⟨_, rfl⟩
 rw [hwk] at HX HB
 rw [hG] at HX
 go_enter Tryz.func3, Tryz.ntmps3
 go_wp2_with fail
 refine (fixed_any _).mono ?_
 rintro e w2 ⟨rfl, b2⟩
 have HK : Hid (BKc w w2 G m) := ⟨HX.out.below b2, HB.out.trans (b2.mono HB.out.size)⟩
 clear b2 HX HB hwk hG
 have c0 := HK.out.box.r
 have c1 := HK.out.box.q
 go_wp2_with fail
 clear c0 c1
 refine (keepUnion_any m.ro m.qo m.rn m.rc m.qn m.qc R Q _ (HS.out.2.1.below HK.out.bel) (HS.out.2.2.below HK.out.bel) (by have := HRL.out; omega)).mono ?_
 rintro e u1 hx
 obtain ⟨z1, a1, n1, d1, F1, rfl, s1, b1, l1⟩ := unA_ls hx
 have HF1 : Hid (RcS u1 a1 n1 d1 F1 /\ LsP _ _ z1 F1) := ⟨s1, l1⟩
 have HQ1 := hide (s1)
 have HK1 := hide (HK.out.below b1)
 clear hx s1 b1 l1
 have c0 := HK1.out.box.r
 have c1 := HK1.out.box.q
 go_wp2_with fail
 clear c0 c1
 refine (refUnionR_any m.ro m.qo m.rn m.rc m.qn m.qc R Q _ (HS.out.2.1.below HK1.out.bel) (HS.out.2.2.below HK1.out.bel) (by have := HRL.out; omega)).mono ?_
 rintro e u2 hx
 obtain ⟨z2, a2, n2, d2, F2, rfl, s2, b2, l2⟩ := urA_ls hx
 have HF2 : Hid (RcS u2 a2 n2 d2 F2 /\ LsP _ _ z2 F2) := ⟨s2, l2⟩
 have HK2 := hide (HK1.out.below b2)
 have HP2 := hide (HQ1.out.below b2)
 clear hx s2 b2 l2
 obtain ⟨e2, p2⟩ := HF1.out.2.one HF2.out.2 (fun _ _ h k => h.one k)
 have HE2 := hide p2
 subst e2
 clear p2
 go_wp2_with fail
 refine (sameRecords_any a1 a2 n1 n2 d1 d2 F1 F2 _ HP2.out HF2.out.1).mono ?_
 rintro e v2 ⟨b, rfl, hb, bq⟩
 obtain rfl : b = true := hb.2 HE2.out
 have HKs2 := hide (HK2.out.below bq)
 clear hb bq
 have c0 := HKs2.out.box.r
 have lp := run_ldP HKs2.out.box.p
 go_wp2_with fail
 clear c0 lp
 refine (keepWaits_any m.ro m.rn m.rc R m.p _ (HS.out.2.1.below HKs2.out.bel) (HS.out.1.p.below HKs2.out.bel) (by have := HRL.out; omega)).mono ?_
 rintro e u3 hx
 obtain ⟨z3, a3, n3, d3, F3, rfl, s3, b3, l3⟩ := wtA_ls hx
 have HF3 : Hid (RcS u3 a3 n3 d3 F3 /\ LsP _ _ z3 F3) := ⟨s3, l3⟩
 have HQ3 := hide (s3)
 have HK3 := hide (HKs2.out.below b3)
 clear hx s3 b3 l3
 have c0 := HK3.out.box.r
 have lp := run_ldP HK3.out.box.p
 go_wp2_with fail
 clear c0 lp
 refine (refWaits_any m.ro m.rn m.rc R m.p _ (HS.out.2.1.below HK3.out.bel) (HS.out.1.p.below HK3.out.bel) (by have := HRL.out; omega)).mono ?_
 rintro e u4 hx
 obtain ⟨z4, a4, n4, d4, F4, rfl, s4, b4, l4⟩ := wrA_ls hx
 have HF4 : Hid (RcS u4 a4 n4 d4 F4 /\ LsP _ _ z4 F4) := ⟨s4, l4⟩
 have HK4 := hide (HK3.out.below b4)
 have HP4 := hide (HQ3.out.below b4)
 clear hx s4 b4 l4
 obtain ⟨e4, p4⟩ := HF3.out.2.one HF4.out.2 (fun _ _ h k => h.one k)
 have HE4 := hide p4
 subst e4
 clear p4
 go_wp2_with fail
 refine (sameRecords_any a3 a4 n3 n4 d3 d4 F3 F4 _ HP4.out HF4.out.1).mono ?_
 rintro e v4 ⟨b, rfl, hb, bq⟩
 obtain rfl : b = true := hb.2 HE4.out
 have HKs4 := hide (HK4.out.below bq)
 clear hb bq
 have c0 := HKs4.out.box.r
 go_wp2_with fail
 clear c0
 refine (fold_any m.ro m.rn m.rc R _ (HS.out.2.1.below HKs4.out.bel).src HS.out.1.sr.wt).mono ?_
 rintro e u5 hx
 obtain ⟨z5, a5, n5, d5, F5, rfl, s5, b5, l5⟩ := foA_ls hx
 have HF5 : Hid (RcS u5 a5 n5 d5 F5 /\ LsP _ _ z5 F5) := ⟨s5, l5⟩
 have HQ5 := hide (s5)
 have HK5 := hide (HKs4.out.below b5)
 clear hx s5 b5 l5
 have c0 := HK5.out.box.r
 go_wp2_with fail
 clear c0
 refine (refFold_any m.ro m.rn m.rc R _ (HS.out.2.1.below HK5.out.bel).src HS.out.1.sr.wt).mono ?_
 rintro e u6 hx
 obtain ⟨z6, a6, n6, d6, F6, rfl, s6, b6, l6⟩ := foA_ls hx
 have HF6 : Hid (RcS u6 a6 n6 d6 F6 /\ LsP _ _ z6 F6) := ⟨s6, l6⟩
 have HK6 := hide (HK5.out.below b6)
 have HP6 := hide (HQ5.out.below b6)
 clear hx s6 b6 l6
 obtain ⟨e6, p6⟩ := HF5.out.2.one HF6.out.2 (fun _ _ h k => fold_one h k)
 have HE6 := hide p6
 subst e6
 clear p6
 go_wp2_with fail
 refine (sameRecords_any a5 a6 n5 n6 d5 d6 F5 F6 _ HP6.out HF6.out.1).mono ?_
 rintro e v6 ⟨b, rfl, hb, bq⟩
 obtain rfl : b = true := hb.2 HE6.out
 have HKs6 := hide (HK6.out.below bq)
 clear hb bq
 have HE := hide HKs6.out.bel
 go_wp2_with fail
 go_ret
 exact ⟨rfl, HE.out⟩
end Go.Proofs.YtalcmdjiejhkgaaGreat
