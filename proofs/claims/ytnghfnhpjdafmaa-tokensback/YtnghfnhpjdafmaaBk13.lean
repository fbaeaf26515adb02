/- Shf RMr -/
import Derived.Shelf.SlSortCmp.WholeK
import Derived.Shelf.SlGeneric
import Derived.Ground.SlsfProg
import Derived.Test.YtnghfnhpjdafmaaProg
import Derived.Test.YtnghfnhpjdafmaaBk07
import Derived.Shelf.SlSortCmp.NoneTotal
import Derived.Shelf.SlicesQ.Reverse
import Derived.Lib.OwnBridge
namespace Go.Proofs
open Go.Shelf
def Try.sortR_ren : Go.Shelf.Ren := ⟨fun | 6 => 126 | 15 => 145 | 14 => 144 | 28 => 160 | 29 => 161 | 20 => 152 | 21 => 153 | 22 => 154 | 23 => 155 | 24 => 156 | 25 => 157 | 26 => 158 | 27 => 159 | 46 => 163 | 47 => 164 | 48 => 165 | 49 => 166 | 50 => 167 | 57 => 168 | n => n, fun | 22 => 86 | 24 => 157 | 25 => 194 | 3 => 3 | 39 => 149 | 0 => 0 | 53 => 224 | 55 => 78 | 4 => 4 | 46 => 217 | 45 => 216 | 50 => 221 | 5 => 5 | 9 => 9 | 66 => 229 | 70 => 233 | 76 => 235 | 77 => 56 | n => n, fun | n => n⟩
theorem Try.sortR : Go.Proofs.SlLaysF0.n6 Try.prog Try.sortR_ren := {
  mixed := by kernel_rfl
  f6 := ⟨Try.f126.name, by decide, Try.func126.trans (congrArg some (by kernel_rfl))⟩
  f14 := ⟨Try.f144.name, by decide, Try.func144.trans (congrArg some (by kernel_rfl))⟩
  f15 := Try.func145.trans (congrArg some (by kernel_rfl))
  f20 := ⟨Try.f152.name, by decide, Try.func152.trans (congrArg some (by kernel_rfl))⟩
  f21 := ⟨Try.f153.name, by decide, Try.func153.trans (congrArg some (by kernel_rfl))⟩
  f22 := ⟨Try.f154.name, by decide, Try.func154.trans (congrArg some (by kernel_rfl))⟩
  f23 := ⟨Try.f155.name, by decide, Try.func155.trans (congrArg some (by kernel_rfl))⟩
  f24 := ⟨Try.f156.name, by decide, Try.func156.trans (congrArg some (by kernel_rfl))⟩
  f25 := ⟨Try.f157.name, by decide, Try.func157.trans (congrArg some (by kernel_rfl))⟩
  f26 := ⟨Try.f158.name, by decide, Try.func158.trans (congrArg some (by kernel_rfl))⟩
  f27 := ⟨Try.f159.name, by decide, Try.func159.trans (congrArg some (by kernel_rfl))⟩
  f28 := Try.func160.trans (congrArg some (by kernel_rfl))
  f29 := Try.func161.trans (congrArg some (by kernel_rfl))
  f46 := ⟨Try.f163.name, by decide, Try.func163.trans (congrArg some (by kernel_rfl))⟩
  f47 := Try.func164.trans (congrArg some (by kernel_rfl))
  f48 := Try.func165.trans (congrArg some (by kernel_rfl))
  f49 := ⟨Try.f166.name, by decide, Try.func166.trans (congrArg some (by kernel_rfl))⟩
  f50 := ⟨Try.f167.name, by decide, Try.func167.trans (congrArg some (by kernel_rfl))⟩
  f57 := ⟨Try.f168.name, by decide, Try.func168.trans (congrArg some (by kernel_rfl))⟩
  t0 := Try.underlying0
  a0 := Try.isAgg0
  z0 := Try.sizeOf0
  v0 := Try.zeroValue0
  t3 := Try.underlying3
  a3 := Try.isAgg3
  z3 := Try.sizeOf3
  v3 := Try.zeroValue3
  t4 := Try.underlying4
  a4 := Try.isAgg4
  z4 := Try.sizeOf4
  v4 := Try.zeroValue4
  t5 := Try.underlying5
  a5 := Try.isAgg5
  z5 := Try.sizeOf5
  v5 := Try.zeroValue5
  t9 := Try.underlying9
  a9 := Try.isAgg9
  z9 := Try.sizeOf9
  v9 := Try.zeroValue9
  t22 := Try.underlying86
  a22 := Try.isAgg86
  z22 := Try.sizeOf86
  v22 := Try.zeroValue86
  t25 := Try.underlying194
  a25 := Try.isAgg194
  z25 := Try.sizeOf194
  v25 := Try.zeroValue194
  t39 := Try.underlying149
  a39 := Try.isAgg149
  z39 := Try.sizeOf149
  v39 := Try.zeroValue149
  t45 := Try.underlying216
  a45 := Try.isAgg216
  z45 := Try.sizeOf216
  v45 := Try.zeroValue216
  t46 := Try.underlying217
  a46 := Try.isAgg217
  z46 := Try.sizeOf217
  v46 := Try.zeroValue217
  t50 := Try.underlying221
  a50 := Try.isAgg221
  z50 := Try.sizeOf221
  v50 := Try.zeroValue221
  t53 := Try.underlying224
  a53 := Try.isAgg224
  z53 := Try.sizeOf224
  v53 := Try.zeroValue224
  t55 := Try.underlying78
  a55 := Try.isAgg78
  z55 := Try.sizeOf78
  v55 := Try.zeroValue78
  t66 := Try.underlying229
  a66 := Try.isAgg229
  z66 := Try.sizeOf229
  v66 := Try.zeroValue229
  t70 := Try.underlying233
  a70 := Try.isAgg233
  z70 := Try.sizeOf233
  v70 := Try.zeroValue233
  t76 := Try.underlying235
  a76 := Try.isAgg235
  z76 := Try.sizeOf235
  v76 := Try.zeroValue235
  t77 := Try.underlying56
  a77 := Try.isAgg56
  z77 := Try.sizeOf56
  v77 := Try.zeroValue56 }
end Go.Proofs
namespace Go.Proofs.Ytnghfnhpjdafmaa
open Go.RowKit Go.Sort

def encR (r : Rn) : List Value := (RC r).toList
theorem encR_len (r : Rn) : (encR r).length = 2 := rfl
/-- the row from ad on holds d, and may be written -/
structure MR (W : World) (ad : Addr) (d : Array Rn) : Prop where
  hk : HoldsK encR 2 W ad.block 0 d
  lt : ad.block < W.heap.size
  ha : ad = ⟨ad.block, 0, none⟩
theorem MR.at {W : World} {ad : Addr} {d : Array Rn} (M : MR W ad d) (i : Nat) (hi : i < d.size) : RnAt W (ad.add (i * 2)) d[i]! := by
  have h : ∀ c, c < 2 → W.cell? ⟨ad.block, i * 2 + c, none⟩ = some (encR d[i]!)[c]! := fun c hc => by
    have := (M.hk.cell hi hc).1
    rwa [Nat.zero_add] at this
  rw [M.ha, Addr.add_lit, Nat.zero_add]
  exact ⟨h 0 (by omega), by rw [Addr.add_lit]; exact h 1 (by omega)⟩
theorem MR.rsrc {W : World} {ad : Addr} {d : Array Rn} (M : MR W ad d) (n c : Nat) (hn : d.size = n) (hc : n ≤ c) (hcm : c ≤ maxLen) (hm : n ≤ 8796093022207) : RSrc W (some ad) n c d.toList := by
  refine ⟨by simpa using hn, fun h => (by cases h), fun ad' h t ht => ?_, hc, hcm, hm⟩
  obtain rfl := Option.some.inj h
  have e : d.toList.getD t rn0 = d[t]! := by
    rw [List.getD, Array.getElem?_toList, Array.getElem?_eq_getElem (by omega), getElem!_pos d t (by omega)]
    rfl
  rw [e]
  exact M.at t (by omega)
theorem OwnR.mr {B0 B : Nat} {w w' : World} {ad : Addr} {cap : Nat} {acc : List Rn} (O : OwnR B0 B w w' (some ad) cap acc) : MR w' ad acc.toArray ∧ B ≤ ad.block ∧ acc.length ≤ cap ∧ cap ≤ maxLen := by
  rcases O.own.2 with ⟨h0, _⟩ | ⟨g, c, cur, hv, hbg, hgg, hnc, hcm, hcsz, htake⟩
  · cases h0
  · simp only [Value.slice.injEq, Option.some.injEq, true_and] at hv
    obtain ⟨rfl, rfl⟩ := hv
    refine ⟨⟨fun j hj => ?_, (Array.getElem?_eq_some_iff.1 hgg).1, rfl⟩, hbg, hnc, hcm⟩
    rw [Sort.size_flatK] at hj
    have hj' : j < acc.length * 2 := by simpa using hj
    refine ⟨?_, by simp [World.frozen?, hgg]⟩
    rw [Nat.zero_add, O.own.cellAt j (by omega), Sort.get_flatK _ _ _ _ hj]
    have e4 := rcs_at acc (j / 2) (j % 2) (by omega) (by omega)
    rw [show j / 2 * 2 + j % 2 = j by omega] at e4
    rw [e4]
    have e5 : acc.toArray[j / 2]! = acc.getD (j / 2) rn0 := by
      rw [getElem!_pos acc.toArray (j / 2) (by simp; omega)]; simp [List.getD, show j / 2 < acc.length by omega]
    rw [e5]
    have : j % 2 = 0 ∨ j % 2 = 1 := by omega
    rcases this with h | h <;> rw [h] <;> rfl
def cmpI (x y : Int) : Int := if x < y then -1 else if y < x then 1 else 0
theorem isNaN_any (x : Int) (w : World) : Calls Try.prog 129 #[.int .i64 x] w fun e w' => e = .returned (.bool false) ∧ w' = w := by
  have h : (x != x) = false := by simp
  go_enter Try.func129, Try.ntmps129
  go_wp2_with fail
  go_ret
  exact ⟨by simp, rfl⟩
theorem cmp_any (x y : Int) (w : World) : Calls Try.prog 101 #[.int .i64 x, .int .i64 y] w fun e w' => e = .returned (.int .i64 (cmpI x y)) ∧ w' = w := by
  by_cases h1 : x < y
  · have HC : Hid (cmpI x y = -1) := by show _ = _; unfold cmpI; rw [if_pos h1]
    go_enter Try.func101, Try.ntmps101
    go_wp2_with (go_at_call 129; refine (isNaN_any _ _).mono ?_; rintro e w' ⟨rfl, rfl⟩)
    go_ret
    exact ⟨ret_int HC.out.symm, rfl⟩
  · by_cases h2 : y < x
    · have HC : Hid (cmpI x y = 1) := by show _ = _; unfold cmpI; rw [if_neg h1, if_pos h2]
      go_enter Try.func101, Try.ntmps101
      go_wp2_with (go_at_call 129; refine (isNaN_any _ _).mono ?_; rintro e w' ⟨rfl, rfl⟩)
      go_ret
      exact ⟨ret_int HC.out.symm, rfl⟩
    · have HC : Hid (cmpI x y = 0) := by show _ = _; unfold cmpI; rw [if_neg h1, if_neg h2]
      go_enter Try.func101, Try.ntmps101
      go_wp2_with (go_at_call 129; refine (isNaN_any _ _).mono ?_; rintro e w' ⟨rfl, rfl⟩)
      go_ret
      exact ⟨ret_int HC.out.symm, rfl⟩
def byLo (x y : Rn) : Int := cmpI x.lo y.lo
theorem byLo_lt (x y : Rn) : ltOf byLo x y = decide (x.lo < y.lo) := by
  unfold ltOf byLo cmpI
  by_cases h1 : x.lo < y.lo
  · simp [h1]
  · by_cases h2 : y.lo < x.lo <;> simp [h1, h2]
theorem byLo_swo : SWO (ltOf byLo) where
  irrefl x := by rw [byLo_lt]; simp
  trans x y z h1 h2 := by rw [byLo_lt] at *; simp at *; omega
  ntrans x y z h1 h2 := by rw [byLo_lt] at *; simp at *; omega
/-- draws and new blocks alone -/
def Grew (w w' : World) : Prop := ∃ q os, w' = grow (w.drewN q) os
theorem grew_two (w : World) (a b : Obj) : Grew w ((w.alloc a).alloc b) := by
  refine ⟨0, #[a] ++ #[b], ?_⟩
  rw [alloc_eq_grow (w.alloc a) b, alloc_eq_grow w a, grow_grow]
  rfl
theorem byLo_any (x y : Rn) (w : World) : Calls Try.prog 127 #[.agg #[.int .i64 x.lo, .int .i64 x.hi], .agg #[.int .i64 y.lo, .int .i64 y.hi]] w fun e w' => e = .returned (.int .i64 (byLo x y)) ∧ Grew w w' := by
  have HG := hide (grew_two w (.cells #[.int .i64 x.lo, .int .i64 x.hi] 157) (.cells #[.int .i64 y.lo, .int .i64 y.hi] 157))
  obtain ⟨p, Hp⟩ : ∃ p, Hid (byLo x y = p) := ⟨_, rfl⟩
  have HC : Hid (∀ W, Calls Try.prog 101 #[.int .i64 x.lo, .int .i64 y.lo] W fun e w' => e = .returned (.int .i64 p) ∧ w' = W) := fun W => by rw [← Hp.out]; exact cmp_any _ _ W
  rw [Hp.out]
  go_enter Try.func127, Try.ntmps127
  go_wp2_with (go_at_call 101; refine (HC.out _).mono ?_; rintro e w' ⟨rfl, rfl⟩)
  go_ret
  exact ⟨rfl, HG.out⟩
theorem cmpLays (blk size : Nat) (w : World) : CmpLays Try.prog 127 #[] encR 2 byLo blk 0 size w :=
  fun _ _ _ _ x y => byLo_any x y _
/-- slices.SortFunc by the runs' beginnings -/
theorem sortFunc_any (ad : Addr) (cap n : Nat) (d : Array Rn) (w : World) (M : MR w ad d) (hn : d.size = n) (hb : n ≤ 8796093022207) :
    Calls Try.prog 126 #[.slice (some ad) n cap, .func (.func 127) #[] #[]] w fun e w' => e = .returned (.tuple #[]) ∧ ∃ d', d'.toList.Perm d.toList ∧ d'.toList.Pairwise (fun x y => x.lo ≤ y.lo) ∧ d'.size = n ∧ MR w' ad d' ∧ Below ad.block w w' := by
  subst hn
  have eg : ∀ args w, (callFunc 127 args).run Try.prog w = .ok (.enter 127 args) w := enters_of Try.func127 (by kernel_rfl) rfl
  have h := AnyQ.slices_SortFunc Try.sortR 2 Try.isAgg157 Try.sizeOf157 encR (fun _ => rfl) (fun x v hv => RC_one x v hv) byLo byLo_swo 127 #[] ad.block 0 cap d w eg (cmpLays ad.block d.size w) M.hk M.lt (by omega)
  rw [← M.ha] at h
  refine Calls.mono h ?_
  rintro e w' ⟨rfl, d', m, os, ⟨hs, _, hp⟩, hsr, rfl⟩
  refine ⟨rfl, d', ?_, ?_, hs, ⟨holdsK_sortWorldK_c encR 2 w ad.block 0 d d' m os M.hk M.lt hs, ?_, M.ha⟩, ?_⟩
  · have e1 : d'.extract 0 d.size = d' := by rw [← hs]; simp
    have e2 : d.extract 0 d.size = d := by simp
    rwa [e1, e2] at hp
  · rw [List.pairwise_iff_getElem]
    intro i j hi hj hij
    have := hsr i j (Nat.zero_le _) hij (by rw [← hs]; simpa using hj)
    rw [byLo_lt] at this
    rw [getElem!_pos d' j (by simpa using hj), getElem!_pos d' i (by simpa using hi)] at this
    simp only [Array.getElem_toList]
    simp at this
    exact this
  · have := M.lt
    show ad.block < ((putRow id (Sort.ahead w m) ad.block 0 (flatK encR 2 d')).heap ++ os).size
    rw [Array.size_append, size_putRow]
    show ad.block < w.heap.size + os.size
    omega
  · have h1 : Below ad.block w (putRow id (Sort.ahead w m) ad.block 0 (flatK encR 2 d')) := Lib.below_putRow (Below.refl _ _) (Nat.le_refl _)
    refine h1.trans ?_
    have hsz : ad.block ≤ (putRow id (Sort.ahead w m) ad.block 0 (flatK encR 2 d')).heap.size := by rw [size_putRow]; exact Nat.le_of_lt M.lt
    show Below ad.block _ (grow (putRow id (Sort.ahead w m) ad.block 0 (flatK encR 2 d')) os)
    generalize putRow id (Sort.ahead w m) ad.block 0 (flatK encR 2 d') = V at hsz
    exact ⟨rfl, rfl, rfl, by show _ ≤ (V.heap ++ os).size; rw [Array.size_append]; omega, fun k hk => by show (V.heap ++ os)[k]? = _; rw [Array.getElem?_append_left (by omega)]⟩
theorem sort0 (ao : Option Addr) (cap : Nat) (w : World) : Calls Try.prog 126 #[.slice ao 0 cap, .func (.func 127) #[] #[]] w fun e w' => e = .returned (.tuple #[]) ∧ w' = w := AnyF.slices_SortFunc_none Try.sortR ao cap _ w
end Go.Proofs.Ytnghfnhpjdafmaa
