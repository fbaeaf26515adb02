/- Shf RMr -/
import Derived.Shelf.SlSortCmp.WholeK
import Derived.Shelf.SlGeneric
import Derived.Ground.SlsfProg
import Derived.Test.YtooinnhjeloocaaGreatProg
import Derived.Test.YtooinnhjeloocaaGreatLs02
import Derived.Shelf.SlSortCmp.NoneTotal
import Derived.Shelf.SlicesQ.Reverse
import Derived.Lib.OwnBridge
namespace Go.Proofs
open Go.Shelf
def Tryz.sortR_ren : Go.Shelf.Ren := ⟨fun | 6 => 106 | 15 => 61 | 14 => 113 | 28 => 79 | 29 => 80 | 20 => 118 | 21 => 119 | 22 => 120 | 23 => 121 | 24 => 122 | 25 => 123 | 26 => 124 | 27 => 125 | 46 => 126 | 47 => 98 | 48 => 99 | 49 => 127 | 50 => 128 | 57 => 129 | n => n, fun | 22 => 71 | 24 => 75 | 25 => 139 | 3 => 3 | 39 => 91 | 0 => 0 | 53 => 112 | 55 => 114 | 4 => 4 | 46 => 106 | 45 => 105 | 50 => 84 | 5 => 5 | 9 => 9 | 66 => 129 | 70 => 133 | 76 => 141 | 77 => 124 | n => n, fun | n => n⟩
theorem Tryz.sortR : Go.Proofs.SlLaysF0.n6 Tryz.prog Tryz.sortR_ren := {
  mixed := by kernel_rfl
  f6 := ⟨Tryz.f106.name, by decide, Tryz.func106.trans (congrArg some (by kernel_rfl))⟩
  f14 := ⟨Tryz.f113.name, by decide, Tryz.func113.trans (congrArg some (by kernel_rfl))⟩
  f15 := Tryz.func61.trans (congrArg some (by kernel_rfl))
  f20 := ⟨Tryz.f118.name, by decide, Tryz.func118.trans (congrArg some (by kernel_rfl))⟩
  f21 := ⟨Tryz.f119.name, by decide, Tryz.func119.trans (congrArg some (by kernel_rfl))⟩
  f22 := ⟨Tryz.f120.name, by decide, Tryz.func120.trans (congrArg some (by kernel_rfl))⟩
  f23 := ⟨Tryz.f121.name, by decide, Tryz.func121.trans (congrArg some (by kernel_rfl))⟩
  f24 := ⟨Tryz.f122.name, by decide, Tryz.func122.trans (congrArg some (by kernel_rfl))⟩
  f25 := ⟨Tryz.f123.name, by decide, Tryz.func123.trans (congrArg some (by kernel_rfl))⟩
  f26 := ⟨Tryz.f124.name, by decide, Tryz.func124.trans (congrArg some (by kernel_rfl))⟩
  f27 := ⟨Tryz.f125.name, by decide, Tryz.func125.trans (congrArg some (by kernel_rfl))⟩
  f28 := Tryz.func79.trans (congrArg some (by kernel_rfl))
  f29 := Tryz.func80.trans (congrArg some (by kernel_rfl))
  f46 := ⟨Tryz.f126.name, by decide, Tryz.func126.trans (congrArg some (by kernel_rfl))⟩
  f47 := Tryz.func98.trans (congrArg some (by kernel_rfl))
  f48 := Tryz.func99.trans (congrArg some (by kernel_rfl))
  f49 := ⟨Tryz.f127.name, by decide, Tryz.func127.trans (congrArg some (by kernel_rfl))⟩
  f50 := ⟨Tryz.f128.name, by decide, Tryz.func128.trans (congrArg some (by kernel_rfl))⟩
  f57 := ⟨Tryz.f129.name, by decide, Tryz.func129.trans (congrArg some (by kernel_rfl))⟩
  t0 := Tryz.underlying0
  a0 := Tryz.isAgg0
  z0 := Tryz.sizeOf0
  v0 := Tryz.zeroValue0
  t3 := Tryz.underlying3
  a3 := Tryz.isAgg3
  z3 := Tryz.sizeOf3
  v3 := Tryz.zeroValue3
  t4 := Tryz.underlying4
  a4 := Tryz.isAgg4
  z4 := Tryz.sizeOf4
  v4 := Tryz.zeroValue4
  t5 := Tryz.underlying5
  a5 := Tryz.isAgg5
  z5 := Tryz.sizeOf5
  v5 := Tryz.zeroValue5
  t9 := Tryz.underlying9
  a9 := Tryz.isAgg9
  z9 := Tryz.sizeOf9
  v9 := Tryz.zeroValue9
  t22 := Tryz.underlying71
  a22 := Tryz.isAgg71
  z22 := Tryz.sizeOf71
  v22 := Tryz.zeroValue71
  t25 := Tryz.underlying139
  a25 := Tryz.isAgg139
  z25 := Tryz.sizeOf139
  v25 := Tryz.zeroValue139
  t39 := Tryz.underlying91
  a39 := Tryz.isAgg91
  z39 := Tryz.sizeOf91
  v39 := Tryz.zeroValue91
  t45 := Tryz.underlying105
  a45 := Tryz.isAgg105
  z45 := Tryz.sizeOf105
  v45 := Tryz.zeroValue105
  t46 := Tryz.underlying106
  a46 := Tryz.isAgg106
  z46 := Tryz.sizeOf106
  v46 := Tryz.zeroValue106
  t50 := Tryz.underlying84
  a50 := Tryz.isAgg84
  z50 := Tryz.sizeOf84
  v50 := Tryz.zeroValue84
  t53 := Tryz.underlying112
  a53 := Tryz.isAgg112
  z53 := Tryz.sizeOf112
  v53 := Tryz.zeroValue112
  t55 := Tryz.underlying114
  a55 := Tryz.isAgg114
  z55 := Tryz.sizeOf114
  v55 := Tryz.zeroValue114
  t66 := Tryz.underlying129
  a66 := Tryz.isAgg129
  z66 := Tryz.sizeOf129
  v66 := Tryz.zeroValue129
  t70 := Tryz.underlying133
  a70 := Tryz.isAgg133
  z70 := Tryz.sizeOf133
  v70 := Tryz.zeroValue133
  t76 := Tryz.underlying141
  a76 := Tryz.isAgg141
  z76 := Tryz.sizeOf141
  v76 := Tryz.zeroValue141
  t77 := Tryz.underlying124
  a77 := Tryz.isAgg124
  z77 := Tryz.sizeOf124
  v77 := Tryz.zeroValue124 }
end Go.Proofs
namespace Go.Proofs.YtooinnhjeloocaaGreat
open Go.RowKit Go.Sort

def encR (r : Rn) : List Value := (RC r).toList
theorem encR_len (r : Rn) : (encR r).length = 2 := rfl
/-- the row from ad on holds d, and may be written -/
structure MR (W : World) (ad : Addr) (d : Array Rn) : Prop where
  hk : HoldsK encR 2 W ad.block 0 d
  lt : ad.block < W.heap.size
  ha : ad = ⟨ad.block, 0, none⟩
theorem MR.at {W : World} {ad : Addr} {d : Array Rn} (M : MR W ad d) (i : Nat) (hi : i < d.size) : RnAt W (ad.add (i * 2)) d[i]! := by
  have h : ∀ c, c < 2 → W.cell? ⟨ad.block, i * 2 + c, none⟩ = some (encR d[i]!)[c]! := fun c hc => by
    have := (M.hk.cell hi hc).1
    rwa [Nat.zero_add] at this
  rw [M.ha, Addr.add_lit, Nat.zero_add]
  exact ⟨h 0 (by omega), by rw [Addr.add_lit]; exact h 1 (by omega)⟩
theorem MR.rsrc {W : World} {ad : Addr} {d : Array Rn} (M : MR W ad d) (n c : Nat) (hn : d.size = n) (hc : n ≤ c) (hcm : c ≤ maxLen) (hm : n ≤ 8796093022207) : RSrc W (some ad) n c d.toList := by
  refine ⟨by simpa using hn, fun h => (by cases h), fun ad' h t ht => ?_, hc, hcm, hm⟩
  obtain rfl := Option.some.inj h
  have e : d.toList.getD t rn0 = d[t]! := by
    rw [List.getD, Array.getElem?_toList, Array.getElem?_eq_getElem (by omega), getElem!_pos d t (by omega)]
    rfl
  rw [e]
  exact M.at t (by omega)
theorem OwnR.mr {B0 B : Nat} {w w' : World} {ad : Addr} {cap : Nat} {acc : List Rn} (O : OwnR B0 B w w' (some ad) cap acc) : MR w' ad acc.toArray ∧ B ≤ ad.block ∧ acc.length ≤ cap ∧ cap ≤ maxLen := by
  rcases O.own.2 with ⟨h0, _⟩ | ⟨g, c, cur, hv, hbg, hgg, hnc, hcm, hcsz, htake⟩
  · cases h0
  · simp only [Value.slice.injEq, Option.some.injEq, true_and] at hv
    obtain ⟨rfl, rfl⟩ := hv
    refine ⟨⟨fun j hj => ?_, (Array.getElem?_eq_some_iff.1 hgg).1, rfl⟩, hbg, hnc, hcm⟩
    rw [Sort.size_flatK] at hj
    have hj' : j < acc.length * 2 := by simpa using hj
    refine ⟨?_, by simp [World.frozen?, hgg]⟩
    rw [Nat.zero_add, O.own.cellAt j (by omega), Sort.get_flatK _ _ _ _ hj]
    have e4 := rcs_at acc (j / 2) (j % 2) (by omega) (by omega)
    rw [show j / 2 * 2 + j % 2 = j by omega] at e4
    rw [e4]
    have e5 : acc.toArray[j / 2]! = acc.getD (j / 2) rn0 := by
      rw [getElem!_pos acc.toArray (j / 2) (by simp; omega)]; simp [List.getD, show j / 2 < acc.length by omega]
    rw [e5]
    have : j % 2 = 0 ∨ j % 2 = 1 := by omega
    rcases this with h | h <;> rw [h] <;> rfl
def cmpI (x y : Int) : Int := if x < y then -1 else if y < x then 1 else 0
theorem isNaN_any (x : Int) (w : World) : Calls Tryz.prog 59 #[.int .i64 x] w fun e w' => e = .returned (.bool false) ∧ w' = w := by
  have h : (x != x) = false := by simp
  go_enter Tryz.func59, Tryz.ntmps59
  go_wp2_with fail
  go_ret
  exact ⟨by simp, rfl⟩
theorem cmp_any (x y : Int) (w : World) : Calls Tryz.prog 36 #[.int .i64 x, .int .i64 y] w fun e w' => e = .returned (.int .i64 (cmpI x y)) ∧ w' = w := by
  by_cases h1 : x < y
  · have HC : Hid (cmpI x y = -1) := by show _ = _; unfold cmpI; rw [if_pos h1]
    go_enter Tryz.func36, Tryz.ntmps36
    go_wp2_with (go_at_call 59; refine (isNaN_any _ _).mono ?_; rintro e w' ⟨rfl, rfl⟩)
    go_ret
    exact ⟨ret_int HC.out.symm, rfl⟩
  · by_cases h2 : y < x
    · have HC : Hid (cmpI x y = 1) := by show _ = _; unfold cmpI; rw [if_neg h1, if_pos h2]
      go_enter Tryz.func36, Tryz.ntmps36
      go_wp2_with (go_at_call 59; refine (isNaN_any _ _).mono ?_; rintro e w' ⟨rfl, rfl⟩)
      go_ret
      exact ⟨ret_int HC.out.symm, rfl⟩
    · have HC : Hid (cmpI x y = 0) := by show _ = _; unfold cmpI; rw [if_neg h1, if_neg h2]
      go_enter Tryz.func36, Tryz.ntmps36
      go_wp2_with (go_at_call 59; refine (isNaN_any _ _).mono ?_; rintro e w' ⟨rfl, rfl⟩)
      go_ret
      exact ⟨ret_int HC.out.symm, rfl⟩
def byLo (x y : Rn) : Int := cmpI x.lo y.lo
theorem byLo_lt (x y : Rn) : ltOf byLo x y = decide (x.lo < y.lo) := by
  unfold ltOf byLo cmpI
  by_cases h1 : x.lo < y.lo
  · simp [h1]
  · by_cases h2 : y.lo < x.lo <;> simp [h1, h2]
theorem byLo_swo : SWO (ltOf byLo) where
  irrefl x := by rw [byLo_lt]; simp
  trans x y z h1 h2 := by rw [byLo_lt] at *; simp at *; omega
  ntrans x y z h1 h2 := by rw [byLo_lt] at *; simp at *; omega
/-- draws and new blocks alone -/
def Grew (w w' : World) : Prop := ∃ q os, w' = grow (w.drewN q) os
theorem grew_two (w : World) (a b : Obj) : Grew w ((w.alloc a).alloc b) := by
  refine ⟨0, #[a] ++ #[b], ?_⟩
  rw [alloc_eq_grow (w.alloc a) b, alloc_eq_grow w a, grow_grow]
  rfl
theorem byLo_any (x y : Rn) (w : World) : Calls Tryz.prog 107 #[.agg #[.int .i64 x.lo, .int .i64 x.hi], .agg #[.int .i64 y.lo, .int .i64 y.hi]] w fun e w' => e = .returned (.int .i64 (byLo x y)) ∧ Grew w w' := by
  have HG := hide (grew_two w (.cells #[.int .i64 x.lo, .int .i64 x.hi] 75) (.cells #[.int .i64 y.lo, .int .i64 y.hi] 75))
  obtain ⟨p, Hp⟩ : ∃ p, Hid (byLo x y = p) := ⟨_, rfl⟩
  have HC : Hid (∀ W, Calls Tryz.prog 36 #[.int .i64 x.lo, .int .i64 y.lo] W fun e w' => e = .returned (.int .i64 p) ∧ w' = W) := fun W => by rw [← Hp.out]; exact cmp_any _ _ W
  rw [Hp.out]
  go_enter Tryz.func107, Tryz.ntmps107
  go_wp2_with (go_at_call 36; refine (HC.out _).mono ?_; rintro e w' ⟨rfl, rfl⟩)
  go_ret
  exact ⟨rfl, HG.out⟩
theorem cmpLays (blk size : Nat) (w : World) : CmpLays Tryz.prog 107 #[] encR 2 byLo blk 0 size w :=
  fun _ _ _ _ x y => byLo_any x y _
/-- slices.SortFunc by the runs' beginnings -/
theorem sortFunc_any (ad : Addr) (cap n : Nat) (d : Array Rn) (w : World) (M : MR w ad d) (hn : d.size = n) (hb : n ≤ 8796093022207) :
    Calls Tryz.prog 106 #[.slice (some ad) n cap, .func (.func 107) #[] #[]] w fun e w' => e = .returned (.tuple #[]) ∧ ∃ d', d'.toList.Perm d.toList ∧ d'.toList.Pairwise (fun x y => x.lo ≤ y.lo) ∧ d'.size = n ∧ MR w' ad d' ∧ Below ad.block w w' := by
  subst hn
  have eg : ∀ args w, (callFunc 107 args).run Tryz.prog w = .ok (.enter 107 args) w := enters_of Tryz.func107 (by kernel_rfl) rfl
  have h := AnyQ.slices_SortFunc Tryz.sortR 2 Tryz.isAgg75 Tryz.sizeOf75 encR (fun _ => rfl) (fun x v hv => RC_one x v hv) byLo byLo_swo 107 #[] ad.block 0 cap d w eg (cmpLays ad.block d.size w) M.hk M.lt (by omega)
  rw [← M.ha] at h
  refine Calls.mono h ?_
  rintro e w' ⟨rfl, d', m, os, ⟨hs, _, hp⟩, hsr, rfl⟩
  refine ⟨rfl, d', ?_, ?_, hs, ⟨holdsK_sortWorldK_c encR 2 w ad.block 0 d d' m os M.hk M.lt hs, ?_, M.ha⟩, ?_⟩
  · have e1 : d'.extract 0 d.size = d' := by rw [← hs]; simp
    have e2 : d.extract 0 d.size = d := by simp
    rwa [e1, e2] at hp
  · rw [List.pairwise_iff_getElem]
    intro i j hi hj hij
    have := hsr i j (Nat.zero_le _) hij (by rw [← hs]; simpa using hj)
    rw [byLo_lt] at this
    rw [getElem!_pos d' j (by simpa using hj), getElem!_pos d' i (by simpa using hi)] at this
    simp only [Array.getElem_toList]
    simp at this
    exact this
  · have := M.lt
    show ad.block < ((putRow id (Sort.ahead w m) ad.block 0 (flatK encR 2 d')).heap ++ os).size
    rw [Array.size_append, size_putRow]
    show ad.block < w.heap.size + os.size
    omega
  · have h1 : Below ad.block w (putRow id (Sort.ahead w m) ad.block 0 (flatK encR 2 d')) := Lib.below_putRow (Below.refl _ _) (Nat.le_refl _)
    refine h1.trans ?_
    have hsz : ad.block ≤ (putRow id (Sort.ahead w m) ad.block 0 (flatK encR 2 d')).heap.size := by rw [size_putRow]; exact Nat.le_of_lt M.lt
    show Below ad.block _ (grow (putRow id (Sort.ahead w m) ad.block 0 (flatK encR 2 d')) os)
    generalize putRow id (Sort.ahead w m) ad.block 0 (flatK encR 2 d') = V at hsz
    exact ⟨rfl, rfl, rfl, by show _ ≤ (V.heap ++ os).size; rw [Array.size_append]; omega, fun k hk => by show (V.heap ++ os)[k]? = _; rw [Array.getElem?_append_left (by omega)]⟩
theorem sort0 (ao : Option Addr) (cap : Nat) (w : World) : Calls Tryz.prog 106 #[.slice ao 0 cap, .func (.func 107) #[] #[]] w fun e w' => e = .returned (.tuple #[]) ∧ w' = w := AnyF.slices_SortFunc_none Tryz.sortR ao cap _ w
end Go.Proofs.YtooinnhjeloocaaGreat
