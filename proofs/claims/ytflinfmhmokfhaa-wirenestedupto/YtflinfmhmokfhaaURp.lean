/- The reference's From and Read; the law's alike and over. -/
import Derived.Test.YtflinfmhmokfhaaURo
import Derived.Test.YtflinfmhmokfhaaUEq
namespace Go.Proofs.Ytflinfmhmokfhaa
open Go.RowKit
attribute [local go_sem ↓] ldG_eq stG_eq ldK_eq stK_eq
attribute [local go_sem] GC_size KC_size to_GC to_KC fold_GC1
variable {w w' w2 wr : World} {g : Nat} {ao so lo : Option Addr} {n c sn sc ln lc : Nat} {Z : List Int} {P : List Ask} {G : List Got}

theorem one_ok (ao : Option Addr) (n c : Nat) (Z : List Int) (a : Nat) (k x : Int) (w : World) (S : Src w ao n c Z) (hcap : n ≤ c) (ha : a ≤ n) (hn : n ≤ 140737488355328) (h : aE (Z.drop a) k x = 0) :
    Calls Try.prog 39 #[.slice ao n c, .int .i64 (a : Int), .agg (KC ⟨k, x⟩)] w fun r w' => r = o3 (aG (Z.drop a) k) ((a + aK (Z.drop a) k : Nat) : Int) 0 ∧ Below w.heap.size w w' := by
  rcases kinds8 k with rfl | rfl | rfl | rfl | rfl | rfl | rfl | rfl | hk
  · exact one1_ok ao n c Z a x w S hcap ha hn h
  · exact one2_ok ao n c Z a x w S hcap ha hn h
  · exact one3_ok ao n c Z a x w S hcap ha hn h
  · exact one4_ok ao n c Z a x w S hcap ha hn h
  · exact one5_ok ao n c Z a x w S hcap ha hn h
  · have e : aG (Z.drop a) 6 = ⟨(n : Int) - (a : Int), false, ⟨#[]⟩⟩ := by
      show (⟨((Z.drop a).length : Int), false, ⟨#[]⟩⟩ : Got) = _
      rw [List.length_drop, S.1, show ((n - a : Nat) : Int) = (n : Int) - (a : Int) by omega]
    rw [e]
    exact one6 ao n c Z a x w S hcap ha hn
  · exact absurd (show orE x = 0 from h) (orE_ne x)
  · exact absurd (show (8 : Int) = 0 from h) (by decide)
  · obtain ⟨k1, k2, k3, k4, k5, k6, k7, k8⟩ := hk
    have e1 : aG (Z.drop a) k = ⟨0, false, ⟨#[]⟩⟩ := by unfold aG; rw [if_neg k1, if_neg k2, if_neg k5, if_neg (by omega), if_neg k6]
    have e2 : aK (Z.drop a) k = 0 := by unfold aK; rw [if_neg k1, if_neg k2, if_neg k5, if_neg (by omega)]
    rw [e1, e2]
    exact oneN ao n c Z a k x w S hcap ha hn ⟨k1, k2, k3, k4, k5, k6, k7, k8⟩
theorem one_bad (ao : Option Addr) (n c : Nat) (Z : List Int) (a : Nat) (k x : Int) (w : World) (S : Src w ao n c Z) (hcap : n ≤ c) (ha : a ≤ n) (hn : n ≤ 140737488355328) {e : Int} (h : aE (Z.drop a) k x = e) (he : e ≠ 0) :
    Calls Try.prog 39 #[.slice ao n c, .int .i64 (a : Int), .agg (KC ⟨k, x⟩)] w fun r w' => r = o3 ⟨0, false, ⟨#[]⟩⟩ 0 e ∧ Below w.heap.size w w' := by
  rcases kinds8 k with rfl | rfl | rfl | rfl | rfl | rfl | rfl | rfl | hk
  · exact one1_bad ao n c Z a x w S hcap ha hn h he
  · exact one2_bad ao n c Z a x w S hcap ha hn h he
  · exact one3_bad ao n c Z a x w S hcap ha hn h he
  · exact one4_bad ao n c Z a x w S hcap ha hn h he
  · exact one5_bad ao n c Z a x w S hcap ha hn h he
  · exact absurd (show e = 0 from h.symm) he
  · by_cases hx : x = 0
    · have : e = 8 := by rw [← h]; show orE x = 8; unfold orE; rw [if_pos hx]
      rw [this]
      exact one7a ao n c Z a x w S hcap ha hn hx
    · have : e = x := by rw [← h]; show orE x = x; unfold orE; rw [if_neg hx]
      rw [this]
      exact one7b ao n c Z a x w S hcap ha hn hx
  · have : e = 8 := h.symm
    rw [this]
    exact one8 ao n c Z a x w S hcap ha hn
  · obtain ⟨k1, k2, k3, k4, k5, k6, k7, k8⟩ := hk
    refine absurd (h.symm.trans ?_) he
    unfold aE
    rw [if_neg k1, if_neg k2, if_neg k5, if_neg (by omega), if_neg k7, if_neg k8]
/-- what From has so far -/
structure FI (w wr : World) (lo : Option Addr) (ln lc : Nat) (L : List Got) : Prop where
  qr : GR wr lo ln lc L
  bel : Below w.heap.size w wr
  ge : ∀ b, blk lo = some b → w.heap.size ≤ b
theorem FI.below {L : List Got} (h : FI w wr lo ln lc L) (b : Below wr.heap.size wr w2) : FI w w2 lo ln lc L := ⟨h.qr.below b, h.bel.trans (b.mono h.bel.size), h.ge⟩
theorem FI.app {L M : List Got} {bo : Option Addr} {m c2 : Nat} (h : FI w wr lo ln lc L) (R : GR w2 bo m c2 M) (A : Ap wr w2 lo bo) : FI w w2 bo m c2 M := by
  have hs := h.bel.size
  refine ⟨R, ⟨A.grown.os.trans h.bel.os, A.grown.tape.trans h.bel.tape, A.grown.output.trans h.bel.output, Nat.le_trans hs A.grown.size, fun k hk => (A.grown.block k (by omega) (fun e => by have := h.ge k e.symm; omega)).trans (h.bel.block k hk)⟩, fun b e => ?_⟩
  rcases A.lies with x | ⟨j, x, hj⟩
  · rw [x] at e; exact h.ge b e
  · rw [x] at e
    have := Option.some.inj e
    omega
/-- behind k asks, at the place a -/
def FL (w wr : World) (Z : List Int) (n : Nat) (P : List Ask) (k a : Nat) (lo : Option Addr) (ln lc : Nat) : Prop :=
  a ≤ n ∧ ln = k ∧ ∃ G, FI w wr lo ln lc G ∧ rdT P Z = (G ++ (rdT (P.drop k) (Z.drop a)).1, (rdT (P.drop k) (Z.drop a)).2)
/-- From's answer -/
def FrP (w w' : World) (Z : List Int) (n : Nat) (P : List Ask) (r : Ending) : Prop := ∃ lo ln lc x, r = .returned (.tuple #[.slice lo ln lc, .int .i64 x, .int .i64 (rdT P Z).2.1]) ∧ FI w w' lo ln lc (rdT P Z).1 ∧ ((rdT P Z).2.1 = 0 → ∃ a : Nat, x = a ∧ a ≤ n ∧ (rdT P Z).2.2 = Z.drop a)
set_option maxRecDepth 100000 in
set_option maxHeartbeats 2000000 in
theorem from_any (ao : Option Addr) (n c : Nat) (Z : List Int) (so : Option Addr) (sn sc : Nat) (P : List Ask) (w : World) (S : Src w ao n c Z) (hcap : n ≤ c) (hn : n ≤ 140737488355328) (Q : KSrc w so sn sc P) (hs : sn ≤ 2000000) :
    Calls Try.prog 22 #[.slice ao n c, .int .i64 0, .slice so sn sc] w fun r w' => FrP w w' Z n P r := by
  have HS := hide S
  have HN : Hid (n ≤ c ∧ n ≤ 140737488355328 ∧ sn ≤ 2000000) := ⟨hcap, hn, hs⟩
  have HQ := hide Q
  have HP : Hid (P.length = sn) := Q.len
  clear S hcap hn Q hs
  go_enter Try.func22, Try.ntmps22
  go_wp2_with fail
  go_loopw [1, 9, 10] (fun at' v i wr => ∃ (k a : Nat) (lo : Option Addr) (ln lc : Nat), k ≤ sn ∧ at' = .int .i64 a ∧ v = .slice lo ln lc ∧ i = .int .i64 k ∧ Hid (FL w wr Z n P k a lo ln lc)) (fun _ _ i _ => sn - (intOf i).toNat)
  case atStart => exact ⟨0, 0, none, 0, 0, Nat.zero_le _, rfl, rfl, rfl, Nat.zero_le _, rfl, [], ⟨GR.nil _, Below.refl _ _, (fun b e => by cases e)⟩, rfl⟩
  case round =>
    obtain ⟨k, a, lo, ln, lc, hk, rfl, rfl, rfl, HF⟩ := hrel
    obtain ⟨ha, hlk, G, hI, hE⟩ := HF.out
    subst hlk
    have HI := hide hI
    have HE := hide hE
    have HA := hide ha
    clear HF hI hE ha
    by_cases hlt : ln < sn
    · have HLT := hide hlt
      have HK1 : Hid (wrap64 ((ln : Int) + 1) = ((ln + 1 : Nat) : Int)) := by show _ = _; have := HN.out; rw [w64 (by omega) (by omega)]; rfl
      obtain ⟨ad, rfl, A⟩ := (HQ.out.below HI.out.bel).at ln hlt
      obtain ⟨s, hs⟩ : ∃ s, P.getD ln k0 = s := ⟨_, rfl⟩
      have HD := hide (rdT_step (by rw [HP.out]; exact hlt) hs)
      rw [hs] at A
      have hld := run_laK A
      have HB : Hid (ln + 1 ≤ 4398046511004) := by show _ ≤ _; have := HN.out; omega
      clear A hs hk
      by_cases hp : aE (Z.drop a) s.kind s.n = 0
      · have HPr := hide hp
        have hO := one_ok ao n c Z a s.kind s.n wr (HS.out.below HI.out.bel) HN.out.1 HA.out HN.out.2.1 hp
        obtain ⟨a2, ha2⟩ : ∃ a2, a + aK (Z.drop a) s.kind = a2 := ⟨_, rfl⟩
        rw [ha2] at hO
        have HA2 : Hid (a2 ≤ n ∧ (Z.drop a).drop (aK (Z.drop a) s.kind) = Z.drop a2) := by
          refine ⟨?_, by rw [List.drop_drop, ha2]⟩
          have := aK_le hp
          rw [List.length_drop, HS.out.1] at this
          have := HA.out
          omega
        obtain ⟨m, hm⟩ : ∃ m, aG (Z.drop a) s.kind = m := ⟨_, rfl⟩
        rw [hm] at hO
        have HM := hide hm
        have HO := hide hO
        clear hp hO ha2 hm
        go_wp2_with fail
        refine HO.out.mono ?_
        rintro r w3 ⟨rfl, b3⟩
        unfold o3
        obtain ⟨g6, hg6⟩ : ∃ g6, w3.heap.size = g6 := ⟨_, rfl⟩
        obtain ⟨wq, hst, M5, b5, -⟩ := madeG w3 m g6 hg6
        simp only [g0] at hst
        have hl5 := run_ldG M5
        have HI5 := hide ((HI.out.below b3).below b5)
        clear b3 M5 b5 HO hld
        go_wp2_with (at_builtin; refine HI5.out.qr.app (L := [m]) (cs := GC m) (m := 1) rfl (gcs_lit m) HB.out rfl (.tmp 36) (.tmp 38) rfl rfl rfl ?_; intro bo c2 w6 R6 A6; have HI6 := hide (HI5.out.app R6 A6); clear R6 A6)
        go_roundw
        case rel => exact ⟨ln + 1, a2, bo, ln + 1, c2, HLT.out, rfl, rfl, (by rw [HK1.out]), HA2.out.1, rfl, _, HI6.out, by rw [HE.out, HD.out, rdT_ok HPr.out, HA2.out.2, HM.out]; simp⟩
        case measure => rw [HK1.out]; have := HLT.out; simp [intOf]; omega
      · have hN : rdT P Z = (G, aE (Z.drop a) s.kind s.n, Z.drop a) := by
          rw [HE.out, HD.out, rdT_bad hp]
          simp
        have HNn := hide hN
        obtain ⟨e, he⟩ : ∃ e, aE (Z.drop a) s.kind s.n = e := ⟨_, rfl⟩
        rw [he] at hp hN HNn
        have HO := hide (one_bad ao n c Z a s.kind s.n wr (HS.out.below HI.out.bel) HN.out.1 HA.out HN.out.2.1 he hp)
        have heb : (e != 0) = true := by simpa using hp
        have HEp := hide hp
        clear hN he hp
        go_wp2_with fail
        refine HO.out.mono ?_
        rintro r w3 ⟨rfl, b3⟩
        unfold o3
        obtain ⟨g6, hg6⟩ : ∃ g6, w3.heap.size = g6 := ⟨_, rfl⟩
        obtain ⟨wq, hst, M5, b5, -⟩ := madeG w3 ⟨0, false, ⟨#[]⟩⟩ g6 hg6
        simp only [g0] at hst
        have HFn : Hid (FrP w wq Z n P (.returned (.tuple #[.slice lo ln lc, .int .i64 (a : Int), .int .i64 e]))) :=
          ⟨lo, ln, lc, a, by rw [HNn.out], by rw [HNn.out]; exact (HI.out.below b3).below b5, fun h => by rw [HNn.out] at h; exact absurd h HEp.out⟩
        clear b3 M5 b5 HO hld
        go_wp2_with fail
        go_ret3
        exact HFn.out
    · obtain rfl : ln = sn := by omega
      have hN : rdT P Z = (G, 0, Z.drop a) := by
        rw [HE.out, List.drop_of_length_le (by rw [HP.out]; exact Nat.le_refl _)]
        simp [rdT]
      have HFn : Hid (FrP w wr Z n P (.returned (.tuple #[.slice lo ln lc, .int .i64 (a : Int), .int .i64 0]))) :=
        ⟨lo, ln, lc, a, by rw [hN], by rw [hN]; exact HI.out, fun _ => ⟨a, rfl, HA.out, by rw [hN]⟩⟩
      clear hN
      go_wp2_with fail
      go_ret3
      exact HFn.out
/-- Read's error, of asks -/
def rtE (P : List Ask) (Z : List Int) : Int := if (rdT P Z).2.1 = 0 then endA (rdT P Z).2.2.length else (rdT P Z).2.1
def RrP (w w' : World) (Z : List Int) (P : List Ask) (r : Ending) : Prop := ∃ lo ln lc, r = .returned (.tuple #[.slice lo ln lc, .int .i64 (rtE P Z)]) ∧ FI w w' lo ln lc (rdT P Z).1
set_option maxRecDepth 100000 in
theorem refReadA_any (ao : Option Addr) (n c : Nat) (Z : List Int) (so : Option Addr) (sn sc : Nat) (P : List Ask) (w : World) (S : Src w ao n c Z) (hcap : n ≤ c) (hn : n ≤ 140737488355328) (Q : KSrc w so sn sc P) (hs : sn ≤ 2000000) :
    Calls Try.prog 10 #[.slice ao n c, .slice so sn sc] w fun r w' => RrP w w' Z P r := by
  have HF := hide (from_any ao n c Z so sn sc P w S hcap hn Q hs)
  have HL : Hid (Z.length = n) := S.1
  clear S hcap hn Q hs
  go_enter Try.func10, Try.ntmps10
  go_wp2_with fail
  refine HF.out.mono ?_
  rintro r w2 ⟨lo, ln, lc, x, rfl, hI, hx⟩
  by_cases he : (rdT P Z).2.1 = 0
  · obtain ⟨a, rfl, ha, hr⟩ := hx he
    rw [he]
    by_cases hlt : a < n
    · have hE : rtE P Z = 52 := by
        unfold rtE endA
        rw [if_pos he, hr, List.length_drop, HL.out, if_neg (by omega)]
      have HE : Hid (RrP w w2 Z P (.returned (.tuple #[.slice lo ln lc, .int .i64 52]))) := ⟨lo, ln, lc, by rw [hE], hI⟩
      have hlti : (a : Int) < (n : Int) := by omega
      clear hx hI hE hr ha he
      go_wp2_with fail
      go_ret2
      exact HE.out
    · have hE : rtE P Z = 0 := by
        unfold rtE endA
        rw [if_pos he, hr, List.length_drop, HL.out, if_pos (by omega)]
      have HE : Hid (RrP w w2 Z P (.returned (.tuple #[.slice lo ln lc, .int .i64 0]))) := ⟨lo, ln, lc, by rw [hE], hI⟩
      have hlti : ¬ (a : Int) < (n : Int) := by omega
      clear hx hI hE hr ha he
      go_wp2_with fail
      go_ret2
      exact HE.out
  · have hE : rtE P Z = (rdT P Z).2.1 := by unfold rtE; rw [if_neg he]
    obtain ⟨e, hee⟩ : ∃ e, (rdT P Z).2.1 = e := ⟨_, rfl⟩
    rw [hee] at he hE ⊢
    have HE : Hid (RrP w w2 Z P (.returned (.tuple #[.slice lo ln lc, .int .i64 e]))) := ⟨lo, ln, lc, by rw [hE], hI⟩
    have heb : (e != 0) = true := by simpa using he
    clear hx hI hE he hee
    go_wp2_with fail
    go_ret2
    exact HE.out
set_option maxRecDepth 100000 in
theorem alike_any (ao bo : Option Addr) (n c d : Nat) (L : List Got) (w : World) (A : GSrc w ao n c L) (B : GSrc w bo n d L) (hn : n ≤ 2000000) : Calls Try.prog 11 #[.slice ao n c, .slice bo n d] w fun r w' => r = .returned (.bool true) ∧ Below w.heap.size w w' := by
  have HA := hide A
  have HB := hide B
  have HN := hide hn
  clear A B hn
  go_enter Try.func11, Try.ntmps11
  go_wp2_with fail
  go_loopw [5] (fun i wr => ∃ k : Nat, k ≤ n ∧ i = .int .i64 k ∧ Hid (Below w.heap.size w wr)) (fun i _ => n - (intOf i).toNat)
  case atStart => exact ⟨0, Nat.zero_le _, rfl, Below.refl _ _⟩
  case round =>
    obtain ⟨k, hk, rfl, HBl⟩ := hrel
    by_cases hlt : k < n
    · have HLT := hide hlt
      have HK1 : Hid (wrap64 ((k : Int) + 1) = ((k + 1 : Nat) : Int)) := by show _ = _; have := HN.out; rw [w64 (by omega) (by omega)]; rfl
      obtain ⟨a1, rfl, A1⟩ := (HA.out.below HBl.out).at k hlt
      obtain ⟨a2, rfl, A2⟩ := (HB.out.below HBl.out).at k hlt
      obtain ⟨m, hm⟩ : ∃ m, L.getD k g0 = m := ⟨_, rfl⟩
      rw [hm] at A1 A2
      have hl1 : ∀ i, (ldG (.pointer (some (a1.add (k * 3))))).run Try.prog (wr.drewN i) = .ok (.agg (GC m)) (wr.drewN i) := fun i => run_laG (A1.on (below_drewN wr i))
      have hl2 : ∀ i, (ldG (.pointer (some (a2.add (k * 3))))).run Try.prog (wr.drewN i) = .ok (.agg (GC m)) (wr.drewN i) := fun i => run_laG (A2.on (below_drewN wr i))
      have heq : ∀ w : World, (binOp .neq 29 (.agg (GC m)) (.agg (GC m))).run Try.prog w = .ok (.bool false) w := run_neG m
      have heg : ∀ (o p : Operand) (w : World), (eqGuard .neq 29 o p (.agg (GC m)) (.agg (GC m))).run Try.prog w = .ok () w := run_egG m
      have hki : (k : Int) < (n : Int) := by omega
      clear A1 A2 hm
      go_wp2_with fail
      go_quiet (fail)
      have HB2 := hide (HBl.out.trans ((below_drewN wr nq).mono HBl.out.size))
      clear hl1 hl2 heq heg
      go_wp2_with fail
      go_roundw
      case rel => exact ⟨k + 1, HLT.out, (by rw [HK1.out]), HB2⟩
      case measure => rw [HK1.out]; have := HLT.out; simp [intOf]; omega
    · have hki : ¬ (k : Int) < (n : Int) := by omega
      go_wp2_with fail
      go_ret
      exact ⟨rfl, HBl.out⟩
set_option maxRecDepth 100000 in
theorem over_any {gave : Int} (R : Rdr w g none 0 0 gave true) : Calls Try.prog 12 #[ptr g] w fun r w' => r = .returned (.bool true) ∧ Kg w w' g := by
  have H1 := hide (fail_over R 51)
  have H2 := hide (left_any R)
  have H3 := hide (num_over R 9)
  have H4 := hide (count_over R)
  have H5 := hide (flag_over R)
  have H6 := hide (text_over R 9)
  clear R
  go_enter Try.func12, Try.ntmps12
  go_wp2_with fail
  refine H1.out.mono ?_
  rintro r w1 ⟨rfl, rfl⟩
  go_wp2_with fail
  refine H2.out.mono ?_
  rintro r w1 ⟨rfl, rfl⟩
  go_wp2_with fail
  refine H3.out.mono ?_
  rintro r w1 ⟨rfl, rfl⟩
  go_wp2_with fail
  refine H4.out.mono ?_
  rintro r w1 ⟨rfl, rfl⟩
  go_wp2_with fail
  refine H5.out.mono ?_
  rintro r w1 ⟨rfl, rfl⟩
  go_wp2_with fail
  refine H6.out.mono ?_
  rintro r w7 ⟨rfl, h7⟩
  have H7 := hide (frame_over h7.r 9)
  have HK := hide h7.k
  clear h7
  go_wp2_with fail
  refine H7.out.mono ?_
  rintro r w8 ⟨⟨bo, c, rfl⟩, h8⟩
  have HE := hide (HK.out.trans h8.k)
  clear h8
  go_wp2_with fail
  go_ret
  exact ⟨rfl, HE.out⟩
end Go.Proofs.Ytflinfmhmokfhaa
