/- slices.Compact of counts. -/
import Derived.Test.YtmmgbcmcjakdoaaWOr
import Derived.Deep.LoopGhost
import Derived.Lib.SlicesCompact
import Derived.Shelf.SlicesQ.Reverse
namespace Go.Proofs.Ytmmgbcmcjakdoaa
open Go.RowKit Go.Sort Go.Lib V
attribute [local go_sem ↓] ld56_eq st56_eq run_eq56
attribute [local go_sem] zeros_VC cells_VA

def eqC (x y : Cn) : Bool := eqF x.1 y.1
theorem eqC_iff (x y : Cn) : eqC x y = true ↔ x = y := by
  unfold eqC
  rw [eqF_iff]
  constructor
  · intro h
    apply Subtype.ext
    funext r
    by_cases hr : r < 16
    · exact h r hr
    · rw [x.2.2 r (by omega), y.2.2 r (by omega)]
  · intro h r _; rw [h]
instance : DecidableEq Cn := fun x y => decidable_of_iff (eqC x y = true) (eqC_iff x y)
/-- at the place p there lie the counts -/
def CnAt (W : World) (p : Addr) (c : Cn) : Prop := ∀ j, j < 16 → W.cell? (p.add j) = some (.int .i64 (c.1 j))
theorem CnAt.on {W W' : World} {p : Addr} {c : Cn} (h : CnAt W p c) (hb : Below W.heap.size W W') : CnAt W' p c :=
  fun j hj => (hb.cell (World.block_lt_of_cell? _ _ (h j hj))).trans (h j hj)
theorem run_ldc {W : World} {p : Addr} {c : Cn} (A : CnAt W p c) : (ld56 (.pointer (some p))).run Try.prog W = .ok (VA c.1) W := by
  have hl := run_loadCells_list (P := Try.prog) (w := W) p (VC c.1).toList (fun j v hv => by
    have hj : j < 16 := by have := (List.getElem?_eq_some_iff.1 hv).1; simpa [VC] using this
    rw [A j hj, ← hv]
    simp [VC, hj])
  unfold ld56
  simp only [Instr.loadAt, Instr.sureAddr, Sem.run_bind, Sem.run_pure, Result.andThen]
  cases hq : Try.prog.info? 42 with
  | none => have := size56; simp [hq] at this
  | some x =>
    have hs : x.size = 16 := by have := size56; simpa [hq] using this
    have hagg : (isAgg 42).run Try.prog W = .ok true W := by
      unfold isAgg
      rw [Sem.run_bind, run_underlying Try.underlying42 W]
      rfl
    have e2 : (VC c.1).toList.length = 16 := by simp [VC]
    rw [e2] at hl
    simp [loadVar, Sem.run_bind, hagg, sizeOf, typeInfo, hq, hs, hl, VA]
structure MR (W : World) (ad : Addr) (d : Array Cn) : Prop where
  hk : HoldsK encC 16 W ad.block 0 d
  lt : ad.block < W.heap.size
  ha : ad = ⟨ad.block, 0, none⟩
theorem MR.mc {W : World} {ad : Addr} {d : Array Cn} (M : MR W ad d) : MC W ad.block d := ⟨M.hk, M.lt⟩
theorem MC.mr {W : World} {q : Nat} {d : Array Cn} (M : MC W q d) : MR W ⟨q, 0, none⟩ d := ⟨M.hk, M.lt, rfl⟩
theorem MR.on {W W' : World} {ad : Addr} {d : Array Cn} (M : MR W ad d) (hb : Below W.heap.size W W') : MR W' ad d := ⟨(M.mc.below hb).hk, (M.mc.below hb).lt, M.ha⟩
theorem MR.at {W : World} {ad : Addr} {d : Array Cn} (M : MR W ad d) (i : Nat) (hi : i < d.size) : CnAt W (ad.add (i * 16)) d[i]! := by
  intro j hj
  rw [M.ha, Addr.add_lit, Addr.add_lit, Nat.zero_add]
  exact (M.mc.cellAt i j hi hj).1
theorem MR.store {W : World} {ad : Addr} {d : Array Cn} (M : MR W ad d) (i : Nat) (u : Cn) (hi : i < d.size) : ∃ W', (st56 (.pointer (some (ad.add (i * 16)))) (VA u.1)).run Try.prog W = .ok () W' ∧ MR W' ad (d.setIfInBounds i u) ∧ Below ad.block W W' ∧ W'.heap.size = W.heap.size := by
  obtain ⟨W', h1, h2, h3, h4⟩ := M.mc.store i hi u
  refine ⟨W', ?_, ⟨h2.hk, h2.lt, M.ha⟩, h3, h4⟩
  rw [M.ha, Addr.add_lit, Nat.zero_add]
  exact h1
theorem below_put (W : World) (g : Nat) (F : Array Value) : Below g W (putRow id W g 0 F) := Lib.below_putRow (q := 0) (Below.refl g W) (Nat.le_refl _)
theorem flat_lay (d : Array Cn) : ∀ (xs : List Cn) (i : Nat), i + xs.length ≤ d.size → setMany (flatK encC 16 d) (i * 16) (xs.map encC).flatten = flatK encC 16 (Lib.lay d i xs)
  | [], _, _ => rfl
  | x :: r, i, h => by
    have hi : i < d.size := by simp at h; omega
    have key : ∀ (F : Array Value) (s : Nat) (a b : List Value), setMany F s (a ++ b) = setMany (setMany F s a) (s + a.length) b := by
      intro F s a
      induction a generalizing F s with
      | nil => intro b; rfl
      | cons v a ih => intro b; simp only [List.cons_append, setMany, List.length_cons]; rw [ih, show s + 1 + a.length = s + (a.length + 1) by omega]
    rw [List.map_cons, List.flatten_cons, key, setMany_set d i x hi, encC_len, show i * 16 + 16 = (i + 1) * 16 by omega]
    exact flat_lay (d.setIfInBounds i x) r (i + 1) (by simp at h ⊢; omega)
theorem zeros (n : Nat) : (Builtin.zeroCells (VC c0.1) n).toList = ((List.replicate n c0).map encC).flatten := by
  have key : ∀ (m : Nat) (t : Nat), ((List.replicate m c0).map encC).flatten[t]? = if t < m * 16 then some (.int .i64 0) else none := by
    intro m
    induction m with
    | zero => intro t; simp
    | succ m ih =>
      intro t
      rw [List.replicate_succ, List.map_cons, List.flatten_cons]
      by_cases ht : t < 16
      · rw [List.getElem?_append_left (by rw [encC_len]; exact ht), if_pos (by omega)]
        simp [encC, VC, c0, ht]
      · rw [List.getElem?_append_right (by rw [encC_len]; omega), encC_len, ih]
        by_cases h2 : t < (m + 1) * 16
        · rw [if_pos h2, if_pos (by omega)]
        · rw [if_neg h2, if_neg (by omega)]
  apply List.ext_getElem?
  intro t
  rw [key n t]
  by_cases ht : t < n * 16
  · rw [if_pos ht]
    have h16 : t % 16 < 16 := by omega
    simp [Builtin.zeroCells, ht, VC, c0, h16]
  · rw [if_neg ht]
    simp [Builtin.zeroCells, VC_size]
    omega
theorem MR.clear {W : World} {ad : Addr} {d : Array Cn} (M : MR W ad d) (kk : Nat) (hk : kk < d.size) (c : Nat) :
    ∃ (W' : World) (d' : Array Cn), (∀ ty, (Builtin.clear_ #[38] ty #[.slice (some (ad.add (kk * 16))) (d.size - kk) c]).run Try.prog W = .ok (.tuple #[]) W') ∧ MR W' ad d' ∧ d'.size = d.size ∧ (∀ j, j < kk → d'[j]! = d[j]!) ∧ Below ad.block W W' ∧ W'.heap.size = W.heap.size := by
  obtain ⟨m, hm⟩ : ∃ m, d.size - kk = m := ⟨_, rfl⟩
  have h1 := putRowK_self encC 16 W ad.block 0 d M.hk
  have hlen : (((List.replicate m c0).map encC).flatten).length = m * 16 := by
    simp [encC_len]
  have hs := stores_of_holds Try.prog (W := W) (blk := ad.block) (off := 0) (F := flatK encC 16 d) M.hk (kk * 16) ((List.replicate m c0).map encC).flatten (by rw [hlen, size_flatK]; omega) (by
    intro v hv
    obtain ⟨l, hl, hv⟩ := List.mem_flatten.1 hv
    obtain ⟨e, _, rfl⟩ := List.mem_map.1 hl
    exact VC_one e.1 v hv)
  have h2 := setCells_putRow W ad.block 0 ((List.replicate m c0).map encC).flatten (kk * 16) (flatK encC 16 d) (by rw [hlen, size_flatK]; omega)
  unfold putRowK at h1
  rw [h1, flat_lay d (List.replicate m c0) kk (by simp; omega), Nat.zero_add] at h2
  rw [Nat.zero_add, h2] at hs
  refine ⟨_, Lib.lay d kk (List.replicate m c0), fun ty => ?_, ⟨holdsK_putRowK encC 16 W ad.block 0 d _ M.hk (lay_size _ _ _), by show ad.block < (putRow id W ad.block 0 _).heap.size; rw [size_putRow]; exact M.lt, M.ha⟩, lay_size _ _ _, fun j hj => ?_, below_put W ad.block _, size_putRow _ _ _ _ _⟩
  · have ha := M.ha
    rw [ha, Addr.add_lit, Nat.zero_add, hm]
    obtain ⟨m', rfl⟩ : ∃ m', m = m' + 1 := ⟨m - 1, by omega⟩
    have hz : (zeroValue 42).run Try.prog W = .ok (VA c0.1) W := Try.zeroValue42 W
    simp [Builtin.clear_, run_underlying Try.underlying38, hz]
    rw [cells_VA, zeros, hs]
    rfl
  · have := Lib.lay_get? (List.replicate m c0) d kk j (by simp; omega)
    rw [if_neg (by omega)] at this
    rw [getElem!_def, getElem!_def, this]
def clC (a : Value) : Sem Value := Builtin.clear_ #[38] 0 #[a]
theorem clC_eq (a : Value) : Builtin.clear_ #[38] 0 #[a] = clC a := rfl
attribute [local go_sem ↓] clC_eq
/-- the row cut to what is kept -/
def CompOut (w w' : World) (e : Ending) (ad : Addr) (cap : Nat) (d : Array Cn) : Prop :=
  ∃ k d', e = .returned (.slice (some ad) k cap) ∧ MR w' ad d' ∧ k ≤ d.size ∧ d'.size = d.size ∧ d'.toList.take k = compactUpTo d d.size ∧ Below ad.block w w'
theorem compOut_all {w w' : World} {ad : Addr} {cap n : Nat} {d : Array Cn} (hn : d.size = n) (M : MR w' ad d) (hb : Below ad.block w w') (hall : ∀ j, j < d.size → keeps d j = true) : CompOut w w' (.returned (.slice (some ad) n cap)) ad cap d :=
  ⟨n, d, rfl, M, by omega, rfl, by rw [compactUpTo_all d _ hall, range_map_get, List.take_of_length_le (by simp; omega)], hb⟩
theorem comp_low {d dk d' : Array Cn} {n kk : Nat} (hI : CompInv d n kk dk) (hn : d.size = n) (hs : d'.size = dk.size) (hl : ∀ j, j < kk → d'[j]! = dk[j]!) : d'.toList.take kk = compactUpTo d d.size := by
  rw [hn]
  have hkk := hI.lt
  have hsz := hI.size
  apply List.ext_getElem?
  intro j
  by_cases hj : j < kk
  · rw [hI.low j hj, ← hl j hj, List.getElem?_take, if_pos hj, Array.getElem?_toList, Array.getElem?_eq_getElem (by omega), getElem!_pos d' j (by omega)]
  · rw [List.getElem?_eq_none (by rw [List.length_take]; omega), List.getElem?_eq_none (by rw [hI.len]; omega)]
set_option maxRecDepth 100000 in
set_option maxHeartbeats 8000000 in
theorem compact_any (ad : Addr) (cap n : Nat) (d : Array Cn) (w : World) (M : MR w ad d) (hn : d.size = n) (hb : n ≤ 1099511627776) (hcap : n ≤ cap) (hcm : cap ≤ 9223372036854775807) :
    Calls Try.prog 24 #[.slice (some ad) n cap] w fun e w' => CompOut w w' e ad cap d := by
  have HM := hide M
  have HN := hide hn
  have HLT : Hid (ad.block ≤ w.heap.size) := Nat.le_of_lt M.lt
  clear M hn
  by_cases h2 : n < 2
  · have HF : Hid (CompOut w w (.returned (.slice (some ad) n cap)) ad cap d) := compOut_all HN.out HM.out (Below.refl _ _) (fun j hj => keeps_lt_one d j (by have := HN.out; omega))
    go_enter Try.func24, Try.ntmps24
    go_wp2_with fail
    go_ret
    exact HF.out
  · go_enter Try.func24, Try.ntmps24
    go_wp2_with fail
    go_loopg [3] n (fun g s wr => ∃ k : Nat, 1 ≤ k ∧ k ≤ n ∧ n - k ≤ g ∧ s = .int .i64 k ∧ Hid (Below w.heap.size w wr ∧ ∀ j, j < k → keeps d j = true))
    case atStart => exact ⟨1, Nat.le_refl _, by omega, by omega, rfl, Below.refl _ _, keeps_lt_one d⟩
    case round =>
      obtain ⟨k, hk1, hk, hg, rfl, H⟩ := hrel
      rename World => w4
      have HM4 := hide (HM.out.on H.out.1)
      by_cases hlt : k < n
      · obtain ⟨j, hj⟩ : ∃ j, k - 1 = j := ⟨_, rfl⟩
        have hz : IntKind.i64.wrap ((k : Int) - 1) = (j : Int) := by rw [IntKind.wrap_i64]; omega
        have hjn : j < n := by omega
        have A0 := hide (HM4.out.at k (by rw [HN.out]; exact hlt))
        have A1 := hide (HM4.out.at j (by rw [HN.out]; exact hjn))
        obtain ⟨x, Hx⟩ : ∃ x, Hid (d[k]! = x) := ⟨_, rfl⟩
        obtain ⟨y, Hy⟩ : ∃ y, Hid (d[j]! = y) := ⟨_, rfl⟩
        rw [Hx.out] at A0
        rw [Hy.out] at A1
        have Hj := hide hj
        clear hj
        have l0 : ∀ d os, (ld56 (.pointer (some (ad.add (k * 16))))).run Try.prog (Sort.grow (redrawn w4 d) os) = .ok (VA x.1) (Sort.grow (redrawn w4 d) os) := fun d os => run_ldc (A0.out.on (below_regrown w4 d os))
        have l1 : ∀ d os, (ld56 (.pointer (some (ad.add (j * 16))))).run Try.prog (Sort.grow (redrawn w4 d) os) = .ok (VA y.1) (Sort.grow (redrawn w4 d) os) := fun d os => run_ldc (A1.out.on (below_regrown w4 d os))
        obtain ⟨q, hq⟩ : ∃ q, eqC x y = q := ⟨_, rfl⟩
        have hqf : eqF x.1 y.1 = q := hq
        cases q with
        | false =>
          have HK : Hid (keeps d k = true) := keeps_pos (by rw [Hj.out, Hx.out, Hy.out]; intro h; rw [(eqC_iff x y).2 h] at hq; cases hq)
          go_wp2_with fail
          refine Go.wp_region_quiet_below (by kernel_rfl) (by kernel_rfl) ?_
          repeat (with_reducible (refine wpQuiet_step ?_); intro K hK; go_simp; (try rw [if_neg (by unfold undef; simp)]); first | (with_reducible (refine hK _ ?_); clear hK K) | (apply Exists.intro; refine ⟨fun _ => ?_, hK _ ?_⟩; (fail); clear hK K))
          with_reducible (refine wpQuiet_nil ?_)
          intro w5 hw'
          obtain ⟨⟨dq, osq⟩, hw''⟩ := hw'
          have b5 : Below w4.heap.size w4 w5 := by rw [hw'']; exact below_regrown w4 dq osq
          clear hw'' dq osq
          have H5 : Hid (Below w.heap.size w w5 ∧ ∀ j, j < k + 1 → keeps d j = true) := ⟨H.out.1.trans (b5.mono H.out.1.size), fun i hi => by
            by_cases e : i = k
            · rw [e]; exact HK.out
            · exact H.out.2 i (by omega)⟩
          clear b5 l0 l1
          go_wp2_with fail
          go_roundg (n - (k + 1))
          case measure => omega
          case rel => exact ⟨k + 1, by omega, by omega, Nat.le_refl _, by go_num, H5⟩
        | true =>
          have HK : Hid (keeps d k = false) := keeps_neg (by omega) (by rw [Hj.out, Hx.out, Hy.out]; exact (eqC_iff x y).1 hq)
          go_wp2_with fail
          refine Go.wp_region_quiet_below (by kernel_rfl) (by kernel_rfl) ?_
          repeat (with_reducible (refine wpQuiet_step ?_); intro K hK; go_simp; (try rw [if_neg (by unfold undef; simp)]); first | (with_reducible (refine hK _ ?_); clear hK K) | (apply Exists.intro; refine ⟨fun _ => ?_, hK _ ?_⟩; (fail); clear hK K))
          with_reducible (refine wpQuiet_nil ?_)
          intro w5 hw'
          obtain ⟨⟨dq, osq⟩, hw''⟩ := hw'
          have b5 : Below w4.heap.size w4 w5 := by rw [hw'']; exact below_regrown w4 dq osq
          clear hw'' dq osq
          have HM5 := hide (HM4.out.on b5)
          have HB5 : Hid (Below ad.block w w5) := (H.out.1.mono HLT.out).trans (b5.mono (Nat.le_trans HLT.out H.out.1.size))
          have HC5 : Hid (CompInv d (k + 1) k d) := CompInv.start H.out.2 HK.out
          clear b5 l0 l1 hq
          go_wp2_with fail
          go_loopg [3, 5] n (fun g s3 s5 wr => ∃ (kk k2 : Nat) (dk : Array Cn), 1 ≤ k2 ∧ k + k2 ≤ n ∧ kk < n ∧ n - (k + k2) ≤ g ∧ s3 = .int .i64 kk ∧ s5 = .int .i64 k2 ∧ Hid (MR wr ad dk ∧ CompInv d (k + k2) kk dk ∧ Below ad.block w wr))
          case atStart => exact ⟨k, 1, d, Nat.le_refl _, by omega, hlt, by omega, rfl, rfl, HM5.out, HC5.out, HB5.out⟩
          case round =>
            obtain ⟨kk, k2, dk, hk2, hkn, hkk, hg2, rfl, rfl, HI⟩ := hrel
            rename World => w6
            clear HM5 HC5 HB5 HM4 A0 A1
            have HD : Hid (dk.size = n) := HI.out.2.1.size.trans HN.out
            by_cases hlt2 : k2 < n - k
            · obtain ⟨j2, hj2⟩ : ∃ j2, k2 - 1 = j2 := ⟨_, rfl⟩
              have hz2 : IntKind.i64.wrap ((k2 : Int) - 1) = (j2 : Int) := by rw [IntKind.wrap_i64]; omega
              have hjn2 : j2 < n - k := by omega
              have A0 := hide (HI.out.1.at (k + k2) (by rw [HD.out]; omega))
              have A1 := hide (HI.out.1.at (k + j2) (by rw [HD.out]; omega))
              have hkk2 := HI.out.2.1.lt
              obtain ⟨u, Hu⟩ : ∃ u, Hid (d[k + k2]! = u) := ⟨_, rfl⟩
              obtain ⟨v, Hv⟩ : ∃ v, Hid (d[k + j2]! = v) := ⟨_, rfl⟩
              rw [HI.out.2.1.high (k + k2) (by omega), Hu.out, Nat.add_mul, ← add_add] at A0
              rw [HI.out.2.1.high (k + j2) (by omega), Hv.out, Nat.add_mul, ← add_add] at A1
              have Hj2 : Hid (k + k2 - 1 = k + j2) := by show _ = _; omega
              clear hj2
              have l0 : ∀ d os, (ld56 (.pointer (some ((ad.add (k * 16)).add (k2 * 16))))).run Try.prog (Sort.grow (redrawn w6 d) os) = .ok (VA u.1) (Sort.grow (redrawn w6 d) os) := fun d os => run_ldc (A0.out.on (below_regrown w6 d os))
              have l1 : ∀ d os, (ld56 (.pointer (some ((ad.add (k * 16)).add (j2 * 16))))).run Try.prog (Sort.grow (redrawn w6 d) os) = .ok (VA v.1) (Sort.grow (redrawn w6 d) os) := fun d os => run_ldc (A1.out.on (below_regrown w6 d os))
              obtain ⟨q2, hq2⟩ : ∃ q2, eqC u v = q2 := ⟨_, rfl⟩
              have hqf2 : eqF u.1 v.1 = q2 := hq2
              cases q2 with
              | true =>
                have HNX : Hid (CompInv d (k + k2 + 1) kk dk) := HI.out.2.1.skip (keeps_neg (by omega) (by rw [Hj2.out, Hu.out, Hv.out]; exact (eqC_iff u v).1 hq2))
                go_wp2_with fail
                refine Go.wp_region_quiet_below (by kernel_rfl) (by kernel_rfl) ?_
                repeat (with_reducible (refine wpQuiet_step ?_); intro K hK; go_simp; (try rw [if_neg (by unfold undef; simp)]); first | (with_reducible (refine hK _ ?_); clear hK K) | (apply Exists.intro; refine ⟨fun _ => ?_, hK _ ?_⟩; (fail); clear hK K))
                with_reducible (refine wpQuiet_nil ?_)
                intro w7 hw'
                obtain ⟨⟨dq, osq⟩, hw''⟩ := hw'
                have b7 : Below w6.heap.size w6 w7 := by rw [hw'']; exact below_regrown w6 dq osq
                clear hw'' dq osq
                have H7 : Hid (MR w7 ad dk ∧ CompInv d (k + (k2 + 1)) kk dk ∧ Below ad.block w w7) := ⟨HI.out.1.on b7, HNX.out, HI.out.2.2.trans (b7.mono (Nat.le_of_lt HI.out.1.lt))⟩
                clear b7 l0 l1
                go_wp2_with fail
                go_roundg (n - (k + (k2 + 1)))
                case measure => omega
                case rel => exact ⟨kk, k2 + 1, dk, by omega, by omega, hkk, Nat.le_refl _, rfl, by go_num, H7⟩
              | false =>
                have HNX : Hid (CompInv d (k + k2 + 1) (kk + 1) (dk.setIfInBounds kk u)) := by
                  have := HI.out.2.1.keep (by rw [HN.out]; omega) (keeps_pos (by rw [Hj2.out, Hu.out, Hv.out]; intro h; rw [(eqC_iff u v).2 h] at hq2; cases hq2))
                  rwa [Hu.out] at this
                go_wp2_with fail
                refine Go.wp_region_quiet_below (by kernel_rfl) (by kernel_rfl) ?_
                repeat (with_reducible (refine wpQuiet_step ?_); intro K hK; go_simp; (try rw [if_neg (by unfold undef; simp)]); first | (with_reducible (refine hK _ ?_); clear hK K) | (apply Exists.intro; refine ⟨fun _ => ?_, hK _ ?_⟩; (fail); clear hK K))
                with_reducible (refine wpQuiet_nil ?_)
                intro w7 hw'
                obtain ⟨⟨dq, osq⟩, hw''⟩ := hw'
                have b7 : Below w6.heap.size w6 w7 := by rw [hw'']; exact below_regrown w6 dq osq
                clear hw'' dq osq
                have l7 := run_ldc (A0.out.on b7)
                obtain ⟨w8, hst, M8, B8, _⟩ := (HI.out.1.on b7).store kk u (by rw [HD.out]; exact hkk)
                have H8 : Hid (MR w8 ad (dk.setIfInBounds kk u) ∧ CompInv d (k + (k2 + 1)) (kk + 1) (dk.setIfInBounds kk u) ∧ Below ad.block w w8) := ⟨M8, HNX.out, (HI.out.2.2.trans (b7.mono (Nat.le_of_lt HI.out.1.lt))).trans B8⟩
                clear b7 l0 l1 M8 B8
                go_wp2_with fail
                go_roundg (n - (k + (k2 + 1)))
                case measure => omega
                case rel => exact ⟨kk + 1, k2 + 1, dk.setIfInBounds kk u, by omega, by omega, by omega, Nat.le_refl _, by go_num, by go_num, H8⟩
            · have hend : k + k2 = n := by omega
              obtain ⟨w7, d', hcl, M7, hs7, hl7, B7, _⟩ := HI.out.1.clear kk (by rw [HD.out]; exact hkk) (cap - kk)
              rw [HD.out] at hcl
              have hcl0 : (clC (.slice (some (ad.add (kk * 16))) (n - kk) (cap - kk))).run Try.prog w6 = .ok (.tuple #[]) w7 := hcl 0
              have HF : Hid (CompOut w w7 (.returned (.slice (some ad) kk cap)) ad cap d) := by
                have hI := HI.out.2.1
                rw [hend] at hI
                exact ⟨kk, d', rfl, M7, by rw [HN.out]; omega, hs7.trans hI.size, comp_low hI HN.out hs7 hl7, HI.out.2.2.trans B7⟩
              clear hcl M7 hs7 hl7 B7
              go_wp2_with fail
              go_ret
              exact HF.out
      · have HF : Hid (CompOut w w4 (.returned (.slice (some ad) n cap)) ad cap d) := compOut_all HN.out HM4.out (H.out.1.mono HLT.out) (fun j hj => H.out.2 j (by have := HN.out; omega))
        go_wp2_with fail
        go_ret
        exact HF.out
end Go.Proofs.Ytmmgbcmcjakdoaa
