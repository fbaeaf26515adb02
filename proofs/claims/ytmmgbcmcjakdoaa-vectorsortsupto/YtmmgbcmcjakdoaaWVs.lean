/- VectorSorts. -/
import Derived.Test.YtmmgbcmcjakdoaaWHr
import Derived.Test.YtmmgbcmcjakdoaaWLa
import Derived.Test.YtmmgbcmcjakdoaaWCy
import Derived.Test.YtmmgbcmcjakdoaaWEa
namespace Go.Proofs.Ytmmgbcmcjakdoaa
open Go.RowKit V

/-- the heads of a sorted row of n -/
def HZ (n : Nat) (d : List Cn) : List (List Int) := if n ≤ 256 then (hdR d.toArray d.toArray.size).map (fun c : Cn => short c.1) else []
def hE (n : Nat) : Int := if n ≤ 256 then 0 else 2
def HD (n : Nat) (X F : List Sv) : Prop := ∀ d : List Cn, d.Perm (X.map cnOf) → d.Pairwise (fun x y => cmpC x y ≤ 0) → F.map Sv.Z = HZ n d
theorem VRow.none (w : World) : VRow w none 0 [] := ⟨rfl, fun _ => rfl, (fun ad h => by cases h), (fun p h => by cases h)⟩
theorem refHeads_both (ao : Option Addr) (n cap : Nat) (X : List Sv) (w : World) (hS : VRow w ao n X) :
    Calls Try.prog 9 #[.slice ao n cap] w fun e w' => ∃ lo lc F, e = .returned (.tuple #[.slice lo F.length lc, .int .i64 (hE n)]) ∧ VRow w' lo F.length F ∧ Below w.heap.size w w' ∧ HD n X F := by
  by_cases hn : n ≤ 256
  · refine (refHeads_any ao n cap X w hS hn).mono ?_
    rintro e w' ⟨lo, lc, F, Y, rfl, hv, hb, hs, hz⟩
    refine ⟨lo, lc, F, by unfold hE; rw [if_pos hn], hv, hb, fun d hp hd => ?_⟩
    have e := srt_one hs.p hs.s hp hd
    unfold HZ
    rw [if_pos hn, hz, ← e]
    rfl
  · refine (refHeads_big ao n cap w (by omega)).mono ?_
    rintro e w' ⟨rfl, hb⟩
    refine ⟨none, 0, [], by unfold hE; rw [if_neg hn]; rfl, VRow.none w', hb, fun d _ _ => ?_⟩
    unfold HZ
    rw [if_neg hn]
    rfl
theorem heads_both (ao : Option Addr) (n cap : Nat) (X : List Sv) (w : World) (hS : VRow w ao n X) :
    Calls Try.prog 11 #[.slice ao n cap] w fun e w' => ∃ lo lc F, e = .returned (.tuple #[.slice lo F.length lc, .int .i64 (hE n)]) ∧ VRow w' lo F.length F ∧ Below w.heap.size w w' ∧ HD n X F := by
  by_cases hn : n ≤ 256
  · refine (heads_any ao n cap X w hS hn).mono ?_
    rintro e w' ⟨qo, h, Y, d', rfl, hv, hz, hp', hs', hb⟩
    have hl := hv.len
    subst hl
    refine ⟨_, _, Y, by unfold hE; rw [if_pos hn], hv, hb, fun d hp hd => ?_⟩
    have e := srt_one hp' hs' hp hd
    unfold HZ
    rw [if_pos hn, hz, hd_ref hs', ← e]
  · refine (heads_big ao n cap w (by omega)).mono ?_
    rintro e w' ⟨rfl, hb⟩
    refine ⟨none, 0, [], by unfold hE; rw [if_neg hn]; rfl, VRow.none w', hb, fun d _ _ => ?_⟩
    unfold HZ
    rw [if_neg hn]
    rfl
theorem hd_short {n : Nat} {X F : List Sv} {w : World} {lo : Option Addr} {m : Nat} (hv : VRow w lo m F) (h : HD n X F) {d : List Cn} (hp : d.Perm (X.map cnOf)) (hs : d.Pairwise (fun x y => cmpC x y ≤ 0)) : ∀ p, p ∈ F → p.vn ≤ 17592186044416 := by
  intro p hpF
  have e := h d hp hs
  have m1 : p.Z ∈ F.map Sv.Z := List.mem_map.2 ⟨p, hpF, rfl⟩
  rw [e] at m1
  unfold HZ at m1
  have a := (hv.src p hpF).1
  split at m1
  · obtain ⟨c, _, hc⟩ := List.mem_map.1 m1
    have b := short_length c.1
    have b2 := top_le c.1
    rw [hc] at b
    omega
  · cases m1
theorem sorted_short {Y : List Sv} {w : World} {lo : Option Addr} {m : Nat} (hv : VRow w lo m Y) {d : List Cn} (hz : Y.map Sv.Z = d.map (fun c : Cn => short c.1)) : ∀ p, p ∈ Y → p.vn ≤ 17592186044416 := by
  intro p hp
  have m1 : p.Z ∈ Y.map Sv.Z := List.mem_map.2 ⟨p, hp, rfl⟩
  rw [hz] at m1
  obtain ⟨c, _, hc⟩ := List.mem_map.1 m1
  have a := (hv.src p hp).1
  have b := short_length c.1
  have b2 := top_le c.1
  rw [hc] at b
  omega
theorem hd_len' {n : Nat} {X F G : List Sv} (hF : HD n X F) (hG : HD n X G) {d : List Cn} (hp : d.Perm (X.map cnOf)) (hs : d.Pairwise (fun x y => cmpC x y ≤ 0)) : F.map Sv.Z = G.map Sv.Z ∧ F.length = G.length := by
  have e : F.map Sv.Z = G.map Sv.Z := (hF d hp hs).trans (hG d hp hs).symm
  exact ⟨e, by have := congrArg List.length e; simpa using this⟩
theorem hd_le {n : Nat} {X F : List Sv} (h : HD n X F) {d : List Cn} (hp : d.Perm (X.map cnOf)) (hs : d.Pairwise (fun x y => cmpC x y ≤ 0)) (hX : X.length = n) : F.length ≤ n := by
  have e := congrArg List.length (h d hp hs)
  unfold HZ at e
  split at e
  · rw [List.length_map, List.length_map] at e
    rw [e]
    unfold hdR
    refine Nat.le_trans (List.length_filter_le _ _) ?_
    unfold Lib.compactUpTo
    rw [List.length_map]
    refine Nat.le_trans (List.length_filter_le _ _) ?_
    rw [List.length_range]
    have := hp.length_eq
    simp at this ⊢
    omega
  · rw [List.length_map] at e
    rw [e]
    exact Nat.zero_le _
/-- the law's three, sorted -/
def thr : List Cn := [cL [0, 1], cL [1, 2], cL [3]]
theorem thr_sorted : thr.Pairwise (fun x y => cmpC x y ≤ 0) := by
  have h : ∀ i, i < 3 → ∀ j, j < 3 → i < j → cmpC (thr.getD i c0) (thr.getD j c0) ≤ 0 := by decide +kernel
  refine List.pairwise_iff_getElem.2 fun i j hi hj hij => ?_
  have := h i hi j hj hij
  rwa [List.getD_eq_getElem?_getD, List.getD_eq_getElem?_getD, List.getElem?_eq_getElem hi, List.getElem?_eq_getElem hj] at this
theorem thr_short : thr.map (fun c : Cn => short c.1) = [[0, 1], [1, 2], [3]] := by decide +kernel
theorem thr_one {g : Nat} {Y : List Sv} {d : List Cn} (hz : Y.map Sv.Z = d.map (fun c : Cn => short c.1)) (hp : d.Perm ((X3 g [3] [1, 2] [0, 1]).map cnOf)) (hs : d.Pairwise (fun x y => cmpC x y ≤ 0)) (k : Nat) : Y.map Sv.Z = (X3 k [0, 1] [1, 2] [3]).map Sv.Z := by
  have hq : d.Perm thr := hp.trans (show List.Perm [cL [3], cL [1, 2], cL [0, 1]] thr by decide +kernel)
  have e : d = thr := hq.eq_of_pairwise (fun a b _ _ h k => cmpC_anti h k) hs thr_sorted
  rw [hz, e, thr_short]
  rfl
theorem X3_len (g : Nat) (A B C : List Int) : (X3 g A B C).length = 3 := rfl
set_option maxHeartbeats 4000000 in
theorem sorts_any (ao : Option Addr) (n cap : Nat) (X : List Sv) (w : World) (hS : VRow w ao n X) (hn : n ≤ 1048576) (hN : ∀ p, p ∈ X → p.vn ≤ 1048576) :
    Calls Try.prog 3 #[.slice ao n cap] w fun e w' => e = .returned (.bool true) ∧ Below w.heap.size w w' := by
  have HS := hide hS
  have HX : Hid (X.length = n) := hS.len
  have HN : Hid (∀ p, p ∈ X → p.vn ≤ 17592186044416) := fun p hp => by have := hN p hp; omega
  clear hS hN
  have HL := hide (three_row w [3] [1, 2] [0, 1] #[.int .i64 3] #[.int .i64 1, .int .i64 2] #[.int .i64 0, .int .i64 1] rfl rfl rfl 1 2 2 rfl rfl rfl)
  have HB0 : Hid (Below w.heap.size w ((((w.alloc (.cells #[.int .i64 3] 3)).alloc (.cells #[.int .i64 1, .int .i64 2] 3)).alloc (.cells #[.int .i64 0, .int .i64 1] 3)).alloc (.cells #[.slice (some ⟨w.heap.size, 0, none⟩) 1 1, .slice (some ⟨w.heap.size + 1, 0, none⟩) 2 2, .slice (some ⟨w.heap.size + 1 + 1, 0, none⟩) 2 2] 24))) := ((((Below.refl _ _).alloc (Nat.le_refl _) _).alloc (by simp) _).alloc (by simp; omega) _).alloc (by simp; omega) _
  go_enter Try.func3, Try.ntmps3
  go_wp2_with fail
  refine (sort_any _ 3 3 _ _ HL.out (by omega)).mono ?_
  rintro e w1 ⟨q1, Y1, d1, rfl, v1, z1, p1, s1, b1⟩
  have HV1 := hide v1
  have HT := hide (thr_one z1 p1 s1 w1.heap.size)
  have HU := hide (sorted_short v1 z1)
  have HB1 : Hid (Below w.heap.size w w1) := HB0.out.trans (b1.mono HB0.out.size)
  clear v1 z1 p1 s1 b1 HL HB0
  have HL := hide (three_row w1 [0, 1] [1, 2] [3] #[.int .i64 0, .int .i64 1] #[.int .i64 1, .int .i64 2] #[.int .i64 3] rfl rfl rfl 2 2 1 rfl rfl rfl)
  have HB2 : Hid (Below w1.heap.size w1 ((((w1.alloc (.cells #[.int .i64 0, .int .i64 1] 3)).alloc (.cells #[.int .i64 1, .int .i64 2] 3)).alloc (.cells #[.int .i64 3] 3)).alloc (.cells #[.slice (some ⟨w1.heap.size, 0, none⟩) 2 2, .slice (some ⟨w1.heap.size + 1, 0, none⟩) 2 2, .slice (some ⟨w1.heap.size + 1 + 1, 0, none⟩) 1 1] 24))) := ((((Below.refl _ _).alloc (Nat.le_refl _) _).alloc (by simp) _).alloc (by simp; omega) _).alloc (by simp; omega) _
  go_wp2_with fail
  refine (equalAll_any _ _ 3 3 3 _ _ _ (HV1.out.below HB2.out) HL.out HT.out (by omega) HU.out).mono ?_
  rintro e w2 ⟨rfl, b2⟩
  have HB3 : Hid (Below w.heap.size w w2) := (HB1.out.trans (HB2.out.mono HB1.out.size)).trans (b2.mono (HB1.out.trans (HB2.out.mono HB1.out.size)).size)
  clear b2 HL HB2 HB1 HT HU HV1
  go_wp2_with fail
  refine (refSort_any ao n cap X _ (HS.out.below HB3.out) hn).mono ?_
  intro e w3 h3
  obtain ⟨lo, lc, Y, rfl, v3, b3, D3⟩ := sortR_d h3
  have HV3 := hide v3
  have HD3 := hide D3
  have HB4 : Hid (Below w.heap.size w w3) := HB3.out.trans (b3.mono HB3.out.size)
  clear h3 v3 b3 D3 HB3
  go_wp2_with fail
  refine (refHeads_both ao n cap X _ (HS.out.below HB4.out)).mono ?_
  rintro e w4 ⟨ho, hc, F, rfl, v4, b4, D4⟩
  have HV4 := hide (And.intro (HV3.out.below b4) v4)
  have HD4 := hide D4
  have HB5 : Hid (Below w.heap.size w w4) := HB4.out.trans (b4.mono HB4.out.size)
  clear v4 b4 D4 HB4 HV3
  obtain ⟨E, hE'⟩ : ∃ E, hE n = E := ⟨_, rfl⟩
  have HEE := hide hE'
  rw [hE']
  clear hE'
  go_wp2_with fail
  refine (copies_any ao n cap X _ (HS.out.below HB5.out) hn HN.out).mono ?_
  rintro e w5 ⟨co, cc, C, rfl, v5, b5, z5⟩
  have HV5 := hide (And.intro (HV4.out.1.below b5) (And.intro (HV4.out.2.below b5) v5))
  have HZ5 := hide z5
  have HB6 : Hid (Below w.heap.size w w5) := HB5.out.trans (b5.mono HB5.out.size)
  clear v5 b5 z5 HB5 HV4
  go_wp2_with fail
  refine (sort_any ao n cap X _ (HS.out.below HB6.out) (by omega)).mono ?_
  rintro e w6 ⟨q6, Y6, d6, rfl, v6, z6, p6, s6, b6⟩
  have HV6 := hide (And.intro v6 (And.intro (HV5.out.1.below b6) (And.intro (HV5.out.2.1.below b6) (HV5.out.2.2.below b6))))
  have HT6 : Hid (Y6.map Sv.Z = Y.map Sv.Z) := by
    show _ = _
    rw [z6, HD3.out.z, srt_one p6 s6 HD3.out.p HD3.out.s]
  have HU6 := hide (sorted_short v6 z6)
  have HB7 : Hid (Below w.heap.size w w6) := HB6.out.trans (b6.mono HB6.out.size)
  clear v6 z6 p6 s6 b6 HB6 HV5
  go_wp2_with fail
  refine (equalAll_any _ _ n n lc _ _ _ HV6.out.1 HV6.out.2.1 HT6.out hn HU6.out).mono ?_
  rintro e w7 ⟨rfl, b7⟩
  have HV7 := hide (And.intro (HV6.out.2.2.1.below b7) (HV6.out.2.2.2.below b7))
  have HB8 : Hid (Below w.heap.size w w7) := HB7.out.trans (b7.mono HB7.out.size)
  clear b7 HB7 HV6 HT6 HU6
  go_wp2_with fail
  refine (heads_both ao n cap X _ (HS.out.below HB8.out)).mono ?_
  rintro e w8 ⟨go, gc, G, rfl, v8, b8, D8⟩
  obtain ⟨eFG, lFG⟩ := hd_len' D8 HD4.out HD3.out.p HD3.out.s
  have HU8 := hide (hd_short v8 D8 HD3.out.p HD3.out.s)
  have hGl := hd_le D8 HD3.out.p HD3.out.s HX.out
  have HV8 := hide (And.intro v8 (And.intro (HV7.out.1.below b8) (HV7.out.2.below b8)))
  have HT8 := hide eFG
  have HB9 : Hid (Below w.heap.size w w8) := HB8.out.trans (b8.mono HB8.out.size)
  clear v8 b8 D8 HB8 HV7 eFG
  rw [HEE.out]
  rw [← lFG] at HV8 ⊢
  clear lFG
  obtain ⟨m, hm⟩ : ∃ m, G.length = m := ⟨_, rfl⟩
  rw [hm] at hGl HV8 ⊢
  clear hm
  have hEE : (E == E) = true := by simp
  go_wp2_with fail
  refine (equalAll_any _ _ m gc hc _ _ _ HV8.out.1 HV8.out.2.1 HT8.out (by omega) HU8.out).mono ?_
  rintro e w9 ⟨rfl, b9⟩
  have HVA := hide (HV8.out.2.2.below b9)
  have HBA : Hid (Below w.heap.size w w9) := HB9.out.trans (b9.mono HB9.out.size)
  clear b9 HB9 HV8
  go_wp2_with fail
  refine (equalAll_any _ _ n cap cc _ _ _ (HS.out.below HBA.out) HVA.out HZ5.out.symm hn HN.out).mono ?_
  rintro e wa ⟨rfl, ba⟩
  have HBB : Hid (Below w.heap.size w wa) := HBA.out.trans (ba.mono HBA.out.size)
  clear ba HBA
  go_wp2_with fail
  go_ret
  exact ⟨rfl, HBB.out⟩
end Go.Proofs.Ytmmgbcmcjakdoaa
