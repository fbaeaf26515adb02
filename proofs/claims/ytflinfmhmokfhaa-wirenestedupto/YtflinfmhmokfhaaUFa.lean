/- The reference's From, from any place on. -/
import Derived.Test.YtflinfmhmokfhaaURp
import Derived.Test.YtflinfmhmokfhaaUNt
namespace Go.Proofs.Ytflinfmhmokfhaa
open Go.RowKit
attribute [local go_sem ↓] ldG_eq stG_eq ldK_eq stK_eq
attribute [local go_sem] GC_size KC_size to_GC to_KC fold_GC1
variable {w w' w2 wr : World} {g : Nat} {ao so lo : Option Addr} {n c sn sc ln lc : Nat} {Z : List Int} {P : List Ask} {G : List Got}
def FLa (w wr : World) (Z : List Int) (n : Nat) (P : List Ask) (a0 k a : Nat) (lo : Option Addr) (ln lc : Nat) : Prop :=
  a ≤ n ∧ ln = k ∧ ∃ G, FI w wr lo ln lc G ∧ rdT P (Z.drop a0) = (G ++ (rdT (P.drop k) (Z.drop a)).1, (rdT (P.drop k) (Z.drop a)).2)
/-- From's answer -/
def FrA (w w' : World) (Z : List Int) (n : Nat) (P : List Ask) (a0 : Nat) (r : Ending) : Prop := ∃ lo ln lc x, r = .returned (.tuple #[.slice lo ln lc, .int .i64 x, .int .i64 (rdT P (Z.drop a0)).2.1]) ∧ FI w w' lo ln lc (rdT P (Z.drop a0)).1 ∧ ((rdT P (Z.drop a0)).2.1 = 0 → ∃ a : Nat, x = a ∧ a ≤ n ∧ (rdT P (Z.drop a0)).2.2 = Z.drop a)
set_option maxRecDepth 100000 in
set_option maxHeartbeats 2000000 in
theorem fromAt_any (ao : Option Addr) (n c : Nat) (Z : List Int) (so : Option Addr) (sn sc : Nat) (P : List Ask) (w : World) (S : Src w ao n c Z) (hcap : n ≤ c) (hn : n ≤ 140737488355328) (Q : KSrc w so sn sc P) (hs : sn ≤ 2000000) (a0 : Nat) (ha0 : a0 ≤ n) :
    Calls Try.prog 22 #[.slice ao n c, .int .i64 (a0 : Int), .slice so sn sc] w fun r w' => FrA w w' Z n P a0 r := by
  have HS := hide S
  have HN : Hid (n ≤ c ∧ n ≤ 140737488355328 ∧ sn ≤ 2000000) := ⟨hcap, hn, hs⟩
  have HQ := hide Q
  have HP : Hid (P.length = sn) := Q.len
  have HA0 : Hid (a0 ≤ n) := ha0
  clear S hcap hn Q hs ha0
  go_enter Try.func22, Try.ntmps22
  go_wp2_with fail
  go_loopw [1, 9, 10] (fun at' v i wr => ∃ (k a : Nat) (lo : Option Addr) (ln lc : Nat), k ≤ sn ∧ at' = .int .i64 a ∧ v = .slice lo ln lc ∧ i = .int .i64 k ∧ Hid (FLa w wr Z n P a0 k a lo ln lc)) (fun _ _ i _ => sn - (intOf i).toNat)
  case atStart => exact ⟨0, a0, none, 0, 0, Nat.zero_le _, rfl, rfl, rfl, HA0.out, rfl, [], ⟨GR.nil _, Below.refl _ _, (fun b e => by cases e)⟩, rfl⟩
  case round =>
    obtain ⟨k, a, lo, ln, lc, hk, rfl, rfl, rfl, HF⟩ := hrel
    obtain ⟨ha, hlk, G, hI, hE⟩ := HF.out
    subst hlk
    have HI := hide hI
    have HE := hide hE
    have HA := hide ha
    clear HF hI hE ha
    by_cases hlt : ln < sn
    · have HLT := hide hlt
      have HK1 : Hid (wrap64 ((ln : Int) + 1) = ((ln + 1 : Nat) : Int)) := by show _ = _; have := HN.out; rw [w64 (by omega) (by omega)]; rfl
      obtain ⟨ad, rfl, A⟩ := (HQ.out.below HI.out.bel).at ln hlt
      obtain ⟨s, hs⟩ : ∃ s, P.getD ln k0 = s := ⟨_, rfl⟩
      have HD := hide (rdT_step (by rw [HP.out]; exact hlt) hs)
      rw [hs] at A
      have hld := run_laK A
      have HB : Hid (ln + 1 ≤ 4398046511004) := by show _ ≤ _; have := HN.out; omega
      clear A hs hk
      by_cases hp : aE (Z.drop a) s.kind s.n = 0
      · have HPr := hide hp
        have hO := one_ok ao n c Z a s.kind s.n wr (HS.out.below HI.out.bel) HN.out.1 HA.out HN.out.2.1 hp
        obtain ⟨a2, ha2⟩ : ∃ a2, a + aK (Z.drop a) s.kind = a2 := ⟨_, rfl⟩
        rw [ha2] at hO
        have HA2 : Hid (a2 ≤ n ∧ (Z.drop a).drop (aK (Z.drop a) s.kind) = Z.drop a2) := by
          refine ⟨?_, by rw [List.drop_drop, ha2]⟩
          have := aK_le hp
          rw [List.length_drop, HS.out.1] at this
          have := HA.out
          omega
        obtain ⟨m, hm⟩ : ∃ m, aG (Z.drop a) s.kind = m := ⟨_, rfl⟩
        rw [hm] at hO
        have HM := hide hm
        have HO := hide hO
        clear hp hO ha2 hm
        go_wp2_with fail
        refine HO.out.mono ?_
        rintro r w3 ⟨rfl, b3⟩
        unfold o3
        obtain ⟨g6, hg6⟩ : ∃ g6, w3.heap.size = g6 := ⟨_, rfl⟩
        obtain ⟨wq, hst, M5, b5, -⟩ := madeG w3 m g6 hg6
        simp only [g0] at hst
        have hl5 := run_ldG M5
        have HI5 := hide ((HI.out.below b3).below b5)
        clear b3 M5 b5 HO hld
        go_wp2_with (at_builtin; refine HI5.out.qr.app (L := [m]) (cs := GC m) (m := 1) rfl (gcs_lit m) HB.out rfl (.tmp 36) (.tmp 38) rfl rfl rfl ?_; intro bo c2 w6 R6 A6; have HI6 := hide (HI5.out.app R6 A6); clear R6 A6)
        go_roundw
        case rel => exact ⟨ln + 1, a2, bo, ln + 1, c2, HLT.out, rfl, rfl, (by rw [HK1.out]), HA2.out.1, rfl, _, HI6.out, by rw [HE.out, HD.out, rdT_ok HPr.out, HA2.out.2, HM.out]; simp⟩
        case measure => rw [HK1.out]; have := HLT.out; simp [intOf]; omega
      · have hN : rdT P (Z.drop a0) = (G, aE (Z.drop a) s.kind s.n, Z.drop a) := by
          rw [HE.out, HD.out, rdT_bad hp]
          simp
        have HNn := hide hN
        obtain ⟨e, he⟩ : ∃ e, aE (Z.drop a) s.kind s.n = e := ⟨_, rfl⟩
        rw [he] at hp hN HNn
        have HO := hide (one_bad ao n c Z a s.kind s.n wr (HS.out.below HI.out.bel) HN.out.1 HA.out HN.out.2.1 he hp)
        have heb : (e != 0) = true := by simpa using hp
        have HEp := hide hp
        clear hN he hp
        go_wp2_with fail
        refine HO.out.mono ?_
        rintro r w3 ⟨rfl, b3⟩
        unfold o3
        obtain ⟨g6, hg6⟩ : ∃ g6, w3.heap.size = g6 := ⟨_, rfl⟩
        obtain ⟨wq, hst, M5, b5, -⟩ := madeG w3 ⟨0, false, ⟨#[]⟩⟩ g6 hg6
        simp only [g0] at hst
        have HFn : Hid (FrA w wq Z n P a0 (.returned (.tuple #[.slice lo ln lc, .int .i64 (a : Int), .int .i64 e]))) :=
          ⟨lo, ln, lc, a, by rw [HNn.out], by rw [HNn.out]; exact (HI.out.below b3).below b5, fun h => by rw [HNn.out] at h; exact absurd h HEp.out⟩
        clear b3 M5 b5 HO hld
        go_wp2_with fail
        go_ret3
        exact HFn.out
    · obtain rfl : ln = sn := by omega
      have hN : rdT P (Z.drop a0) = (G, 0, Z.drop a) := by
        rw [HE.out, List.drop_of_length_le (by rw [HP.out]; exact Nat.le_refl _)]
        simp [rdT]
      have HFn : Hid (FrA w wr Z n P a0 (.returned (.tuple #[.slice lo ln lc, .int .i64 (a : Int), .int .i64 0]))) :=
        ⟨lo, ln, lc, a, by rw [hN], by rw [hN]; exact HI.out, fun _ => ⟨a, rfl, HA.out, by rw [hN]⟩⟩
      clear hN
      go_wp2_with fail
      go_ret3
      exact HFn.out
end Go.Proofs.Ytflinfmhmokfhaa
