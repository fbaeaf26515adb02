/- LMr -/
import Derived.Test.YtooinnhjeloocaaGreatLs35
import Derived.Shelf.SlicesQ.Reverse
import Derived.Lib.OwnBridge
namespace Go.Proofs.YtooinnhjeloocaaGreat.K
open Go.RowKit Go.Sort

def encE (e : En) : List Value := (EC e).toList
theorem encE_len (e : En) : (encE e).length = 4 := rfl
/-- the row from ad on holds d, and may be written -/
structure MR (W : World) (ad : Addr) (d : Array En) : Prop where
  hk : HoldsK encE 4 W ad.block 0 d
  lt : ad.block < W.heap.size
  ha : ad = ⟨ad.block, 0, none⟩
theorem MR.at {W : World} {ad : Addr} {d : Array En} (M : MR W ad d) (i : Nat) (hi : i < d.size) : EnAt W (ad.add (i * 4)) d[i]! := by
  have h : ∀ c, c < 4 → W.cell? ⟨ad.block, i * 4 + c, none⟩ = some (encE d[i]!)[c]! := fun c hc => by
    have := (M.hk.cell hi hc).1
    rwa [Nat.zero_add] at this
  rw [M.ha, Addr.add_lit, Nat.zero_add]
  exact ⟨h 0 (by omega), by rw [Addr.add_lit]; exact h 1 (by omega), by rw [Addr.add_lit]; exact h 2 (by omega), by rw [Addr.add_lit]; exact h 3 (by omega)⟩
theorem MR.on {W W' : World} {ad : Addr} {d : Array En} (M : MR W ad d) (hb : Below W.heap.size W W') : MR W' ad d :=
  ⟨fun j hj => by rw [hb.cell (p := ⟨ad.block, 0 + j, none⟩) M.lt, hb.frozen (p := ⟨ad.block, 0 + j, none⟩) M.lt]; exact M.hk j hj, Nat.lt_of_lt_of_le M.lt hb.size, M.ha⟩
theorem flat_set (d : Array En) (i : Nat) (e : En) (hi : i < d.size) : setMany (flatK encE 4 d) (i * 4) (encE e) = flatK encE 4 (d.setIfInBounds i e) := by
  refine ext_get! (by simp) fun t ht => ?_
  have ht' : t < d.size * 4 := by simpa using ht
  rw [get_setMany _ _ _ t (by simpa using ht'), get_flatK _ _ _ t ht', get_flatK _ _ _ t (by simpa using ht'), encE_len]
  by_cases a : t / 4 = i
  · rw [if_pos ((blk_iff 4 i t (by omega)).2 a), a, getElem!_set_same d i e hi, show t - i * 4 = t % 4 by omega]
  · rw [if_neg (fun h => a ((blk_iff 4 i t (by omega)).1 h)), getElem!_set_other d i _ e a]
theorem below_put (W : World) (g : Nat) (F : Array Value) : Below g W (putRow id W g 0 F) := Lib.below_putRow (q := 0) (Below.refl g W) (Nat.le_refl _)
theorem MR.setCells {W : World} {ad : Addr} {d : Array En} (M : MR W ad d) (i : Nat) (e : En) (hi : i < d.size) :
    W.setCells ad.block (i * 4) (encE e) = putRowK encE 4 W ad.block 0 (d.setIfInBounds i e) := by
  have h1 := putRowK_self encE 4 W ad.block 0 d M.hk
  have h2 := setCells_putRow W ad.block 0 (encE e) (i * 4) (flatK encE 4 d) (by rw [encE_len, size_flatK]; have := Nat.mul_le_mul_right 4 (show i + 1 ≤ d.size from hi); omega)
  unfold putRowK at h1
  rw [h1, flat_set d i e hi, Nat.zero_add] at h2
  exact h2
theorem MR.store {W : World} {ad : Addr} {d : Array En} (M : MR W ad d) (i : Nat) (e : En) (hi : i < d.size) :
    ∃ W' : World, (st28 (.pointer (some (ad.add (i * 4)))) (EV e)).run Tryz.prog W = .ok () W' ∧ MR W' ad (d.setIfInBounds i e) ∧ Below ad.block W W' ∧ W'.heap.size = W.heap.size := by
  have hs := stores_of_holds Tryz.prog (W := W) (blk := ad.block) (off := 0) (F := flatK encE 4 d) M.hk (i * 4) (encE e) (by rw [encE_len, size_flatK]; have := Nat.mul_le_mul_right 4 (show i + 1 ≤ d.size from hi); omega) (EC_one e)
  rw [Nat.zero_add, M.setCells i e hi] at hs
  refine ⟨_, ?_, ⟨holdsK_putRowK encE 4 W ad.block 0 d _ M.hk (by simp), by show ad.block < (putRow id W ad.block 0 _).heap.size; rw [size_putRow]; exact M.lt, M.ha⟩, below_put W ad.block _, size_putRow _ _ _ _ _⟩
  have ha := M.ha
  rw [ha, Addr.add_lit, Nat.zero_add]
  unfold st28
  cases hq : Tryz.prog.info? 36 with
  | none => have := size28; simp [hq] at this
  | some x =>
    have hz : x.size = 4 := by have := size28; simpa [hq] using this
    have hs' : (storeCells ⟨ad.block, i * 4, none⟩ (EC e).toList 0).run Tryz.prog W = .ok () (putRowK encE 4 W ad.block 0 (d.setIfInBounds i e)) := hs
    simp only [Instr.storeAt, Instr.sureAddr, Sem.run_bind, Sem.run_pure, Result.andThen, storeVar, sizeOf, typeInfo, cells_EV, EC_size]
    simp [hs', hq, hz]
/-- the row, many entries written -/
theorem flat_lay (d : Array En) : ∀ (xs : List En) (i : Nat), i + xs.length ≤ d.size → setMany (flatK encE 4 d) (i * 4) (xs.map encE).flatten = flatK encE 4 (Lib.lay d i xs)
  | [], _, _ => rfl
  | x :: r, i, h => by
    have hi : i < d.size := by simp at h; omega
    have key : ∀ (F : Array Value) (s : Nat) (a b : List Value), setMany F s (a ++ b) = setMany (setMany F s a) (s + a.length) b := by
      intro F s a
      induction a generalizing F s with
      | nil => intro b; rfl
      | cons v a ih => intro b; simp only [List.cons_append, setMany, List.length_cons]; rw [ih, show s + 1 + a.length = s + (a.length + 1) by omega]
    rw [List.map_cons, List.flatten_cons, key, flat_set d i x hi, encE_len, show i * 4 + 4 = (i + 1) * 4 by omega]
    exact flat_lay (d.setIfInBounds i x) r (i + 1) (by simp at h ⊢; omega)
theorem zero29 (w : World) : (zeroValue 36).run Tryz.prog w = .ok (EV en0) w := Tryz.zeroValue36 w
theorem zeros (n : Nat) : (Builtin.zeroCells (EC en0) n).toList = ((List.replicate n en0).map encE).flatten := by
  show _ = ecs (List.replicate n en0)
  apply List.ext_getElem?
  intro t
  by_cases ht : t < n * 4
  · have h2 := ecs_at (List.replicate n en0) (t / 4) (t % 4) (by simp; omega) (by omega)
    rw [show t / 4 * 4 + t % 4 = t by omega] at h2
    have hg : (List.replicate n en0).getD (t / 4) en0 = en0 := by simp [List.getD, show t / 4 < n by omega]
    rw [h2, hg]
    have h1 : (Builtin.zeroCells (EC en0) n).toList[t]? = some ((EC en0)[t % 4]!) := by simp [Builtin.zeroCells, EC_size, ht]
    rw [h1]
    have : t % 4 = 0 ∨ t % 4 = 1 ∨ t % 4 = 2 ∨ t % 4 = 3 := by omega
    rcases this with h | h | h | h <;> rw [h] <;> rfl
  · rw [List.getElem?_eq_none (by simp [Builtin.zeroCells, EC_size]; omega), List.getElem?_eq_none (by rw [ecs_length]; simp; omega)]
theorem lay_size (d : Array En) : ∀ (xs : List En) (k : Nat), (Lib.lay d k xs).size = d.size := by
  intro xs
  induction xs generalizing d with
  | nil => intro k; rfl
  | cons x r ih => intro k; rw [Lib.lay, ih]; simp
theorem MR.clear {W : World} {ad : Addr} {d : Array En} (M : MR W ad d) (kk : Nat) (hk : kk < d.size) (c : Nat) :
    ∃ (W' : World) (d' : Array En), (∀ ty, (Builtin.clear_ #[22] ty #[.slice (some (ad.add (kk * 4))) (d.size - kk) c]).run Tryz.prog W = .ok (.tuple #[]) W') ∧ MR W' ad d' ∧ d'.size = d.size ∧ (∀ j, j < kk → d'[j]! = d[j]!) ∧ Below ad.block W W' ∧ W'.heap.size = W.heap.size := by
  obtain ⟨m, hm⟩ : ∃ m, d.size - kk = m := ⟨_, rfl⟩
  have h1 := putRowK_self encE 4 W ad.block 0 d M.hk
  have hlen : (((List.replicate m en0).map encE).flatten).length = m * 4 := by
    have := ecs_length (List.replicate m en0); rwa [List.length_replicate] at this
  have hs := stores_of_holds Tryz.prog (W := W) (blk := ad.block) (off := 0) (F := flatK encE 4 d) M.hk (kk * 4) ((List.replicate m en0).map encE).flatten (by rw [hlen, size_flatK]; omega) (by
    intro v hv
    obtain ⟨l, hl, hv⟩ := List.mem_flatten.1 hv
    obtain ⟨e, _, rfl⟩ := List.mem_map.1 hl
    exact EC_one e v hv)
  have h2 := setCells_putRow W ad.block 0 ((List.replicate m en0).map encE).flatten (kk * 4) (flatK encE 4 d) (by rw [hlen, size_flatK]; omega)
  unfold putRowK at h1
  rw [h1, flat_lay d (List.replicate m en0) kk (by simp; omega), Nat.zero_add] at h2
  rw [Nat.zero_add, h2] at hs
  refine ⟨_, Lib.lay d kk (List.replicate m en0), fun ty => ?_, ⟨holdsK_putRowK encE 4 W ad.block 0 d _ M.hk (lay_size _ _ _), by show ad.block < (putRow id W ad.block 0 _).heap.size; rw [size_putRow]; exact M.lt, M.ha⟩, lay_size _ _ _, fun j hj => ?_, below_put W ad.block _, size_putRow _ _ _ _ _⟩
  · have ha := M.ha
    rw [ha, Addr.add_lit, Nat.zero_add, hm]
    obtain ⟨m', rfl⟩ : ∃ m', m = m' + 1 := ⟨m - 1, by omega⟩
    have hz := zero29 W
    simp [Builtin.clear_, run_underlying Tryz.underlying22, hz]
    rw [cells_EV, zeros, hs]
    rfl
  · have := Lib.lay_get? (List.replicate m en0) d kk j (by simp; omega)
    rw [if_neg (by omega)] at this
    rw [getElem!_def, getElem!_def, this]
/-- draws and new blocks alone -/
def Grew (w w' : World) : Prop := ∃ q os, w' = grow (w.drewN q) os
theorem grew_by (w : World) (a b c : Obj) : Grew w (((w.alloc a).alloc b).drew.alloc c) := by
  refine ⟨1, #[a] ++ #[b] ++ #[c], ?_⟩
  rw [alloc_eq_grow ((w.alloc a).alloc b).drew c, alloc_eq_grow (w.alloc a) b, alloc_eq_grow w a, grow_grow, drew_grow, grow_grow]
  rfl
set_option maxHeartbeats 1600000 in
theorem byDot_gr (x y : En) (w : World) : Calls Tryz.prog 20 #[enV x, enV y] w fun e w' => e = .returned (.int .i64 (byD x y)) ∧ Grew w w' := by
  have T0 := hide (Two.start w x y)
  obtain ⟨w0, Hw0⟩ : ∃ w0, Hid ((w.alloc (.cells #[.int .i64 x.rep, .int .i64 x.num, .string x.sku, .int .i64 x.qty] 36)).alloc (.cells #[.int .i64 y.rep, .int .i64 y.num, .string y.sku, .int .i64 y.qty] 36) = w0) := ⟨_, rfl⟩
  rw [Hw0.out] at T0
  have c1 := T0.out.a0
  have c2 := T0.out.a1
  have c3 := T0.out.b0
  have c4 := T0.out.b1
  obtain ⟨p, Hp⟩ : ∃ p, Hid (cmpI x.rep y.rep = p) := ⟨_, rfl⟩
  obtain ⟨q, Hq⟩ : ∃ q, Hid (cmpI x.num y.num = q) := ⟨_, rfl⟩
  have C1 : Hid (∀ W, Calls Tryz.prog 36 #[.int .i64 x.rep, .int .i64 y.rep] W fun e w' => e = .returned (.int .i64 p) ∧ w' = W) := fun W => by rw [← Hp.out]; exact cmp_any _ _ W
  have C2 : Hid (∀ W, Calls Tryz.prog 36 #[.int .i64 x.num, .int .i64 y.num] W fun e w' => e = .returned (.int .i64 q) ∧ w' = W) := fun W => by rw [← Hq.out]; exact cmp_any _ _ W
  have HF : Hid (or2 p q = byD x y) := by show _ = _; unfold byD; rw [Hp.out, Hq.out]
  have T1 : Hid (Two w (w0.drew.alloc (.cells #[.int .i64 p, .int .i64 q] 3)) x y) := (T0.out.on (below_drew (Below.refl _ _))).on (below_new _ _)
  have HO := hide (or_new p q w0.drew w0.heap.size rfl)
  have HG : Hid (Grew w (w0.drew.alloc (.cells #[.int .i64 p, .int .i64 q] 3))) := by rw [← Hw0.out]; exact grew_by _ _ _ _
  obtain ⟨r, m, s, q⟩ := x
  obtain ⟨r', m', s', q'⟩ := y
  go_enter Tryz.func20, Tryz.ntmps20
  go_wp2_with fail
  rw [Hw0.out]
  first | (go_region_held (fun W => W.cell? ⟨w.heap.size, 0, none⟩ = some (.int .i64 r) ∧ W.cell? ⟨w.heap.size, 1, none⟩ = some (.int .i64 m) ∧ W.cell? ⟨w.heap.size + 1, 0, none⟩ = some (.int .i64 r') ∧ W.cell? ⟨w.heap.size + 1, 1, none⟩ = some (.int .i64 m')) (first | exact ⟨T1.out.a0, T1.out.a1, T1.out.b0, T1.out.b1⟩ | go_keep) (first | (go_at_call_of 36 r; refine (C1.out _).mono ?_; rintro e w' ⟨rfl, rfl⟩) | (go_at_call_of 36 m; refine (C2.out _).mono ?_; rintro e w' ⟨rfl, rfl⟩) | (go_at_call 35; refine HO.out.mono ?_; rintro e w' ⟨rfl, rfl⟩))) | fail
  all_goals (go_wp2_with fail)
  all_goals go_ret
  all_goals exact ⟨ret_int HF.out, HG.out⟩
theorem byD_lt (x y : En) : ltOf byD x y = ahead x y := by
  unfold ltOf byD or2 cmpI ahead
  by_cases h1 : x.rep < y.rep
  · simp [h1]
  · by_cases h2 : y.rep < x.rep
    · have : ¬ x.rep = y.rep := by omega
      simp [h1, h2, this]
    · have e : x.rep = y.rep := by omega
      by_cases h3 : x.num < y.num
      · simp [e, h3]
      · by_cases h4 : y.num < x.num <;> simp [e, h3, h4]
theorem byD_swo : SWO (ltOf byD) where
  irrefl x := by rw [byD_lt]; exact ahead_irr x
  trans x y z h1 h2 := by rw [byD_lt] at *; exact ahead_trans h1 h2
  ntrans x y z h1 h2 := by rw [byD_lt] at *; simp [ahead] at *; omega
theorem cmpLays (blk size : Nat) (w : World) : CmpLays Tryz.prog 20 #[] encE 4 byD blk 0 size w :=
  fun _ _ _ _ x y => byDot_gr x y _
set_option maxRecDepth 100000 in
/-- slices.SortFunc by byDot -/
theorem sortFunc_any (ad : Addr) (cap n : Nat) (d : Array En) (w : World) (M : MR w ad d) (hn : d.size = n) (hb : n ≤ 3518437208883) :
    Calls Tryz.prog 37 #[.slice (some ad) n cap, .func (.func 20) #[] #[]] w fun e w' => e = .returned (.tuple #[]) ∧ ∃ d', d'.toList.Perm d.toList ∧ d'.toList.Pairwise (fun x y => leE x y = true) ∧ MR w' ad d' ∧ Below ad.block w w' := by
  subst hn
  have eg : ∀ args w, (callFunc 20 args).run Tryz.prog w = .ok (.enter 20 args) w := enters_of Tryz.func20 (by kernel_rfl) rfl
  have h := AnyQ.slices_SortFunc Tryz.sortEn 4 Tryz.isAgg36 Tryz.sizeOf36 encE (fun _ => rfl) (fun x v hv => EC_one x v hv) byD byD_swo 20 #[] ad.block 0 cap d w eg (cmpLays ad.block d.size w) M.hk M.lt (by omega)
  rw [← M.ha] at h
  refine Calls.mono h ?_
  rintro e w' ⟨rfl, d', m, os, ⟨hs, _, hp⟩, hsr, rfl⟩
  refine ⟨rfl, d', ?_, ?_, ⟨holdsK_sortWorldK_c encE 4 w ad.block 0 d d' m os M.hk M.lt hs, ?_, M.ha⟩, ?_⟩
  · have e1 : d'.extract 0 d.size = d' := by rw [← hs]; simp
    have e2 : d.extract 0 d.size = d := by simp
    rwa [e1, e2] at hp
  · rw [List.pairwise_iff_getElem]
    intro i j hi hj hij
    have := hsr i j (Nat.zero_le _) hij (by rw [← hs]; simpa using hj)
    rw [byD_lt] at this
    rw [getElem!_pos d' j (by simpa using hj), getElem!_pos d' i (by simpa using hi)] at this
    simp only [Array.getElem_toList]
    unfold leE; rw [this]; rfl
  · have := M.lt
    show ad.block < (grow (putRow id (Sort.ahead w m) ad.block 0 (flatK encE 4 d')) os).heap.size
    show ad.block < ((putRow id (Sort.ahead w m) ad.block 0 (flatK encE 4 d')).heap ++ os).size
    rw [Array.size_append, size_putRow]
    show ad.block < w.heap.size + os.size
    omega
  · have h1 : Below ad.block w (putRow id (Sort.ahead w m) ad.block 0 (flatK encE 4 d')) := Lib.below_putRow (Below.refl _ _) (Nat.le_refl _)
    refine h1.trans ?_
    have hsz : ad.block ≤ (putRow id (Sort.ahead w m) ad.block 0 (flatK encE 4 d')).heap.size := by rw [size_putRow]; exact Nat.le_of_lt M.lt
    show Below ad.block _ (grow (putRow id (Sort.ahead w m) ad.block 0 (flatK encE 4 d')) os)
    generalize putRow id (Sort.ahead w m) ad.block 0 (flatK encE 4 d') = V at hsz
    exact ⟨rfl, rfl, rfl, by show _ ≤ (V.heap ++ os).size; rw [Array.size_append]; omega, fun k hk => by show (V.heap ++ os)[k]? = _; rw [Array.getElem?_append_left (by omega)]⟩
end Go.Proofs.YtooinnhjeloocaaGreat.K
