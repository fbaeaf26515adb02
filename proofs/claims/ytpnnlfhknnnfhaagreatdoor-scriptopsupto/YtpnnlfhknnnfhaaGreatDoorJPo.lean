/- PrintOp. -/
import Derived.Test.YtpnnlfhknnnfhaaGreatDoorJSo
import Derived.OrdersHeld
namespace Go.Proofs.YtpnnlfhknnnfhaaGreatDoor
open Go.RowKit T Y V
variable {w w' w2 : World} {g : Nat}
attribute [local go_sem ↓] ldSh_eq stSh_eq ldO_eq stO_eq

theorem runsT {ao : Option Addr} {n c m : Nat} {Z L : List ByteArray} {cs : Array Value} (h : SR w ao n c Z) (hm : L.length = m) (hcs : cs.toList = scs L) (hb : n + m ≤ 8796093022000) (ty : TypeId) :
    ∃ bo c2 w2, (Builtin.append_ #[30, 30] ty #[.slice ao n c, .slice (some ⟨w.heap.size, 0, none⟩) m m]).run Tryz.prog (w.alloc (.cells cs 9)) = .ok (.slice bo (n + m) c2) w2 ∧ SR w2 bo (n + m) c2 (Z ++ L) ∧ Ap w w2 ao bo := by
  obtain ⟨i0, hi, hz0, hz1, hz2⟩ := info_parts infoT
  have hk : SR (w.alloc (.cells cs 9)) ao n c Z := h.new _
  obtain ⟨v', w2, hrun, hown, hgrow, hnil, hat⟩ := run_append_own_at (P := Tryz.prog) (w.alloc (.cells cs 9)) 0 30 ty 9 i0 (.string ⟨#[]⟩) 1 16 Tryz.underlying30 hi hz0 hz1 hz2 rfl (by decide) (.slice ao n c) n (scs Z) hk ⟨w.heap.size, 0, none⟩ m m (scs L) (by rw [scs_length, hm, Nat.mul_one]) (fun j u hj => by
    rw [Addr.add_lit, Nat.zero_add, World.cell?_alloc_new]
    rw [← hcs] at hj
    simpa using hj) (scs_one L) (by unfold maxLen; omega) (by omega) (Nat.zero_le _)
  rw [← scs_append] at hown
  obtain ⟨bo, c2, rfl, hP⟩ := SR.out hown
  rw [ownBlock_blk] at hgrow
  rw [ownBlock_blk, ownBlock_blk] at hat
  refine ⟨bo, c2, w2, hrun, hP, (Ap.new w _ ao).trans ⟨hgrow, ?_⟩⟩
  rcases hat with e | e
  · exact Or.inl e
  · exact Or.inr ⟨_, e, Nat.le_refl _⟩
theorem step_appT {W : World} {ops : Array Oper} {o : Oper} {a : Act} {K : Act → World → Prop} {Q : Exit → Act → World → Prop} {E : Prop} {v1 v2 v' : Value} {w2 : World} (hgd : o.guard = none) (s x : Operand) (ho : o.op = .call { callee := .builtin .append, args := #[s, x], argTypes := #[30, 30] })
    (hs : a.eval s = v1) (hx : a.eval x = v2) (hrun : (Builtin.append_ #[30, 30] o.type #[v1, v2]).run Tryz.prog W = .ok v' w2) (hK : K (a.put o.dst v') w2) :
    if Region.wanted o (yielded ops a.tmps) = true then Oper.wp Tryz.prog o a W K Q else E := by
  have hw : Region.wanted o (yielded ops a.tmps) = true := by simp [Region.wanted, hgd]
  rw [if_pos hw]
  unfold Oper.wp
  simp [execOp, ho, resolve, invoke, builtin, hs, hx, hrun, Result.andThen]
  exact hK
theorem SR_one (w : World) (x : ByteArray) : SR (w.alloc (.cells #[.string x] 9)) (some ⟨w.heap.size, 0, none⟩) 1 1 [x] :=
  ⟨rfl, .inr ⟨w.heap.size, 1, _, rfl, Nat.zero_le _, heap_alloc_new w _, Nat.le_refl _, by unfold maxLen; omega, rfl, rfl⟩⟩
theorem SR_below {ao : Option Addr} {n c : Nat} {Z : List ByteArray} (h : SR w ao n c Z) (hb : Below w.heap.size w w') : SR w' ao n c Z := h.keep fun k e => hb.block k (h.lt k e)
theorem SR_cell {b n c : Nat} {Z : List ByteArray} (h : SR w (some ⟨b, 0, none⟩) n c Z) (j : Nat) (x : ByteArray) (hj : Z[j]? = some x) : w.cell? ⟨b, 0 + j, none⟩ = some (.string x) := by
  have hl := h.len
  have hjn : j < n := by have := (List.getElem?_eq_some_iff.1 hj).1; omega
  rw [Nat.zero_add, World.ownsRow.cellAt (show w.ownsRow 0 9 1 (.slice (some ⟨b, 0, none⟩) n c) n (scs Z) from h) j (by omega)]
  simp [scs, hj]
/-- texts joined -/
theorem joinS {n c : Nat} {Z : List ByteArray} {ad : Option Addr} (h : SR w ad n c Z) (h0 : 0 < n) (hn : n ≤ 140737488355328) (sep : List UInt8) (hl : (Lib.join (Z.map (·.data.toList)) sep).length ≤ 140737488355328) :
    Calls Tryz.prog 15 #[.slice ad n c, .string (bs sep)] w fun e w' => e = .returned (.string (bs (Lib.join (Z.map (·.data.toList)) sep))) ∧ Below w.heap.size w w' := by
  have hlen := h.len
  rcases h.2 with ⟨hx, h00⟩ | ⟨q, cap2, cur, hv, hq, hh, hnc, r⟩
  · omega
  · have hv' := hv
    simp only [Value.slice.injEq, true_and] at hv'
    obtain ⟨rfl, rfl⟩ := hv'
    have hJ := Tryz.strings_Join q 0 c Z (bs sep) w (fun j x hj => SR_cell h j x hj) (h.lt q rfl) (by omega) (by omega) (by rw [bs_list]; exact hl)
    rw [hlen, bs_list] at hJ
    exact hJ
/-- the words of a step's line, as far as they are there -/
def wds (o : Sp) (l : List UInt8) : List ByteArray := bs (wrdL o.kind) :: l.map fun f => bs (fdT o f)
theorem wds_snoc (o : Sp) (l : List UInt8) (f : UInt8) : wds o (l ++ [f]) = wds o l ++ [bs (fdT o f)] := by simp [wds]
theorem wds_join (o : Sp) : Lib.join ((wds o (fdsL o.kind)).map (·.data.toList)) [32] = opT o := by
  unfold wds opT fdsT
  rw [List.map_cons, join_sp, bs_list, List.map_map, List.map_map]
  congr 2
theorem Ok.fdT {o : Sp} (h : Ok o) (f : UInt8) : (fdT o f).length ≤ 4 * o.sku.size + 30 := by
  unfold Go.Proofs.YtpnnlfhknnnfhaaGreatDoor.fdT
  split
  · have := skT_len o.sku.data.toList
    have e : o.sku.data.toList.length = o.sku.size := by simp
    omega
  · have := num_len (fdN o f) (h.lo f) (h.hi f)
    omega
theorem Ok.fds {o : Sp} (h : Ok o) : ∀ l : List UInt8, (fdsT o l).length ≤ l.length * (4 * o.sku.size + 31)
  | [] => by simp [fdsT]
  | f :: l => by
    have e : fdsT o (f :: l) = [32] ++ Go.Proofs.YtpnnlfhknnnfhaaGreatDoor.fdT o f ++ fdsT o l := by simp [fdsT]
    have h1 := h.fdT f
    have h2 := h.fds l
    have h3 : (f :: l).length * (4 * o.sku.size + 31) = l.length * (4 * o.sku.size + 31) + (4 * o.sku.size + 31) := by rw [List.length_cons, Nat.add_mul, Nat.one_mul]
    have h4 : ([32] : List UInt8).length = 1 := rfl
    rw [e, List.length_append, List.length_append, h3, h4]
    omega
theorem Ok.opT {o : Sp} (h : Ok o) : (opT o).length ≤ 16 * o.sku.size + 140 := by
  have h1 := fds_small (kdN o.kind) (kdN_lt o.kind)
  have h2 := h.fds (fdsL o.kind)
  have h3 : (fdsL o.kind).length ≤ 4 := h1.1
  have h4 : (wrdL o.kind).length ≤ 8 := h1.2
  have h5 : (fdsL o.kind).length * (4 * o.sku.size + 31) ≤ 4 * (4 * o.sku.size + 31) := Nat.mul_le_mul_right _ h3
  unfold Go.Proofs.YtpnnlfhknnnfhaaGreatDoor.opT
  rw [List.length_append]
  omega
theorem below_ap {ao bo : Option Addr} {n : Nat} {v : World} (hb : Below n w v) (hn : n ≤ v.heap.size) (A : Ap v w2 ao bo) (hk : ∀ k, blk ao = some k → n ≤ k) : Below n w w2 :=
  hb.trans ⟨A.grown.os, A.grown.tape, A.grown.output, A.grown.size, fun k hlt => A.grown.block k (Nat.lt_of_lt_of_le hlt hn) (fun e => by have := hk k e.symm; omega)⟩
/-- while a step's words are put together -/
structure Pw (w v : World) (g1 g3 n0 : Nat) (o : Sp) (F : List UInt8) (bo : Option Addr) (m c : Nat) (l : List UInt8) : Prop where
  r : SR v bo m c (wds o l)
  x : OBox v g1 o
  s : ShBox v g3 ⟨bs (wrdL o.kind), bs F⟩
  b : Below w.heap.size w v
  l1 : g1 < n0
  l3 : g3 < n0
  lw : w.heap.size ≤ n0
  ln : n0 ≤ v.heap.size
  lk : ∀ j, blk bo = some j → n0 ≤ j
theorem Pw.on {g1 g3 n0 m c : Nat} {o : Sp} {F : List UInt8} {bo : Option Addr} {l : List UInt8} {v : World} (h : Pw w v g1 g3 n0 o F bo m c l) (hb : Below v.heap.size v w') : Pw w w' g1 g3 n0 o F bo m c l :=
  ⟨SR_below h.r hb, h.x.below hb, h.s.below hb, h.b.trans (hb.mono h.b.size), h.l1, h.l3, h.lw, Nat.le_trans h.ln hb.size, h.lk⟩
theorem Pw.app {g1 g3 n0 m c c2 : Nat} {o : Sp} {F : List UInt8} {bo b2 : Option Addr} {l : List UInt8} {f : UInt8} {v : World} (h : Pw w v g1 g3 n0 o F bo m c l) (R : SR w2 b2 (m + 1) c2 (wds o l ++ [bs (Go.Proofs.YtpnnlfhknnnfhaaGreatDoor.fdT o f)])) (A : Ap v w2 bo b2) : Pw w w2 g1 g3 n0 o F b2 (m + 1) c2 (l ++ [f]) := by
  refine ⟨by rw [wds_snoc]; exact R, ?_, ?_, below_ap h.b h.b.size A (fun k e => Nat.le_trans h.lw (h.lk k e)), h.l1, h.l3, h.lw, Nat.le_trans h.ln A.grown.size, fun j hj => ?_⟩
  · exact (A.grown.block g1 h.x.lt (fun e => by have := h.lk g1 e.symm; have := h.l1; omega)).trans h.x
  · exact (A.grown.block g3 h.s.lt (fun e => by have := h.lk g3 e.symm; have := h.l3; omega)).trans h.s
  · rcases A.lies with e | ⟨i, e, hi⟩
    · exact h.lk j (e ▸ hj)
    · rw [e] at hj
      have := Option.some.inj hj
      have := h.ln
      omega
set_option maxRecDepth 100000 in
set_option maxHeartbeats 3200000 in
theorem printOp_any (o : Sp) (w : World) (h : Ok o) (ht : Tab w) (hs : Sht w) : Calls Tryz.prog 7 #[.agg (OC o)] w fun e w' => e = .returned (.string (bs (opT o))) ∧ Below w.heap.size w w' := by
  obtain ⟨w1, hw1⟩ : ∃ w1, w.alloc (.cells (OC o) 24) = w1 := ⟨_, rfl⟩
  have hx : OBox w1 w.heap.size o := by rw [← hw1]; exact OBox_new w o
  have hb1 : Below w.heap.size w w1 := by rw [← hw1]; exact below_new _ _
  have hz1 : w1.heap.size = w.heap.size + 1 := by rw [← hw1]; simp
  have c0 := hx.c0
  have HC := hide (shapeOf_any o.kind w1 (hs.on hb1))
  have HX := hide hx
  have HB := hide hb1
  have HT := hide ht
  have HO := hide h
  have HZ := hide hz1
  have HJl := hide h.opT
  have hfs : (bs (fdsL o.kind)).size ≤ 4 := by rw [bs_size]; exact (fds_small (kdN o.kind) (kdN_lt o.kind)).1
  clear hx hb1 ht hs hz1
  go_enter Tryz.func7, Tryz.ntmps7
  go_wp2_with (go_at_call 13; refine HC.out.mono ?_; rintro e w2 ⟨rfl, b2⟩; obtain ⟨w3, hst, hbx, hbl, -⟩ := madeSh w2 ⟨bs (wrdL o.kind), bs (fdsL o.kind)⟩ w2.heap.size rfl; have hst' : (stSh (.pointer (some ⟨w2.heap.size, 0, none⟩)) (.agg #[.string (bs (wrdL o.kind)), .string (bs (fdsL o.kind))])).run Tryz.prog (w2.alloc (.cells #[.string ⟨#[]⟩, .string ⟨#[]⟩] 36)) = .ok () w3 := hst; have s0 := hbx.c0; have s1 := hbx.c1; simp only at s0 s1; obtain ⟨w4, hw4⟩ : ∃ w4, w3.alloc (.cells #[.string (bs (wrdL o.kind))] 9) = w4 := ⟨_, rfl⟩; have t1 : w4.cell? ⟨w2.heap.size, 1, none⟩ = some (.string (bs (fdsL o.kind))) := (by rw [← hw4]; exact (hbx.below (below_new w3 _)).c1); have HPw : Hid (Pw w w4 w.heap.size w2.heap.size w3.heap.size o (fdsL o.kind) (some ⟨w3.heap.size, 0, none⟩) 1 1 []) := (by show Pw _ _ _ _ _ _ _ _ _ _ _; rw [← hw4]; have b3 := hbl.mono (Nat.le_refl _); have bw2 := HB.out.trans (b2.mono HB.out.size); have bw3 := bw2.trans (hbl.mono bw2.size); have hz := HZ.out; have z2 := b2.size; have z3 := hbl.size; have z4 := hbx.lt; exact ⟨SR_one w3 _, ((HX.out.below b2).below hbl).below (below_new w3 _), hbx.below (below_new w3 _), bw3.trans ((below_new w3 _).mono bw3.size), by omega, z4, by omega, (below_new w3 _).size, fun j hj => Nat.le_of_eq (Option.some.inj hj)⟩); clear hst hbx hbl)
  obtain ⟨fl, hfl⟩ : ∃ fl, fdsL o.kind = fl := ⟨_, rfl⟩
  clear s0 s1 hst' hw4 HC
  rw [hfl] at t1 hfs HPw ⊢
  have Hfn := hide (bs_size fl)
  have Hfl := hide hfl
  clear hfl
  go_loopw [4, 15] (fun t v wr => ∃ (k m cc : Nat) (bo : Option Addr), k ≤ (bs fl).size ∧ v = .int .i64 (k : Int) ∧ t = .slice bo m cc ∧ m = k + 1 ∧ Hid (Pw w wr w.heap.size w2.heap.size w3.heap.size o fl bo m cc (fl.take k))) (fun _ v _ => (bs fl).size - (intOf v).toNat)
  case atStart => exact ⟨0, 1, 1, _, by omega, rfl, rfl, rfl, HPw⟩
  case round =>
    clear HPw t1
    obtain ⟨k, m, cc, bo, hk, rfl, rfl, hm, HP⟩ := hrel
    have Hm := hide hm
    have hmb : m ≤ 10 := by omega
    clear hm
    by_cases hlt2 : k < (bs fl).size
    · skip
      obtain ⟨f, hf⟩ : ∃ f, (bs fl)[k] = f := ⟨_, rfl⟩
      have HE : Hid (fl.take (k + 1) = fl.take k ++ [f]) := by
        have e := take_snocB (bs fl) k hlt2
        rw [bs_list, hf] at e
        exact e
      have t1 := HP.out.s.c1
      simp only at t1
      go_wp2_with fail
      refine wp_region_held_drew (S := fun v => OBox v w.heap.size o ∧ v.cell? ⟨w2.heap.size, 1, none⟩ = some (.string (bs fl))) (by kernel_rfl) (⟨HP.out.x.below (below_drew1 _), t1⟩) (fun hHeld => ?_)
      refine wpAnyH_take (i := 0) (oi := { dst := some 18, op := Op.move (Operand.tmp 4), type := 30, pos := "script.go:29", after := #[], guard := none }) (v := ?_) rfl (by kernel_rfl) (by kernel_rfl) (by kernel_rfl) (fun _ _ _ h => h) (Or.inl ⟨by rfl, ?_⟩) (by assumption) ?_
      rotate_left
      · (intro w hSw; (try dsimp only at hSw); go_simp); first | done | with_reducible rfl
      simp only [Act.put, List.setIfInBounds_toArray, List.set_cons_zero, List.set_cons_succ]
      refine wpAnyH_take (i := 1) (oi := { dst := some 19, op := Op.load 24 (Operand.tmp 1), type := 24, pos := "script.go:29", after := #[], guard := none }) (v := ?_) rfl (by kernel_rfl) (by kernel_rfl) (by kernel_rfl) (fun _ _ _ h => h) (Or.inl ⟨by rfl, ?_⟩) (by assumption) ?_
      rotate_left
      · (intro w hSw; (try dsimp only at hSw); have hl := run_ldO hSw.1; go_simp); first | done | with_reducible rfl
      simp only [Act.put, List.setIfInBounds_toArray, List.set_cons_zero, List.set_cons_succ]
      refine wpAnyH_take (i := 2) (oi := { dst := some 20, op := Op.fieldAddr 36 (Operand.tmp 3) 1, type := 0, pos := "script.go:29", after := #[], guard := none }) (v := ?_) rfl (by kernel_rfl) (by kernel_rfl) (by kernel_rfl) (fun _ _ _ h => h) (Or.inl ⟨by rfl, ?_⟩) (by assumption) ?_
      rotate_left
      · (intro w hSw; (try dsimp only at hSw); go_simp); first | done | with_reducible rfl
      simp only [Act.put, List.setIfInBounds_toArray, List.set_cons_zero, List.set_cons_succ]
      refine wpAnyH_take (i := 3) (oi := { dst := some 21, op := Op.load 9 (Operand.tmp 20), type := 9, pos := "script.go:29", after := #[{ on := 2, ground := Ground.data }], guard := none }) (v := ?_) rfl (by kernel_rfl) (by kernel_rfl) (by kernel_rfl) (fun _ _ _ h => h) (Or.inl ⟨by rfl, ?_⟩) (by assumption) ?_
      rotate_left
      · (intro w hSw; (try dsimp only at hSw); have hl := hSw.2; go_simp); first | done | with_reducible rfl
      simp only [Act.put, List.setIfInBounds_toArray, List.set_cons_zero, List.set_cons_succ]
      refine wpAnyH_take (i := 4) (oi := { dst := some 22, op := Op.move (Operand.tmp 5), type := 3, pos := "script.go:29", after := #[], guard := none }) (v := ?_) rfl (by kernel_rfl) (by kernel_rfl) (by kernel_rfl) (fun _ _ _ h => h) (Or.inl ⟨by rfl, ?_⟩) (by assumption) ?_
      rotate_left
      · (intro w hSw; (try dsimp only at hSw); go_simp); first | done | with_reducible rfl
      simp only [Act.put, List.setIfInBounds_toArray, List.set_cons_zero, List.set_cons_succ]
      refine wpAnyH_take (i := 5) (oi := { dst := some 23, op := Op.index 9 (Operand.tmp 21) (Operand.tmp 22), type := 5, pos := "script.go:29", after := #[{ on := 3, ground := Ground.data }, { on := 4, ground := Ground.data }], guard := none }) (v := ?_) rfl (by kernel_rfl) (by kernel_rfl) (by kernel_rfl) (fun _ _ _ h => h) (Or.inl ⟨by rfl, ?_⟩) (by assumption) ?_
      rotate_left
      · (intro w hSw; (try dsimp only at hSw); go_simp; (try simp only [hf]); go_simp); first | done | with_reducible rfl
      simp only [Act.put, List.setIfInBounds_toArray, List.set_cons_zero, List.set_cons_succ]
      refine wpAnyH_ready (rs := [6]) (by kernel_rfl) (by simp) ?_
      refine AllReadyH.cons rfl (fun K hK => ?_) ?_
      rotate_left
      · exact AllReadyH.nil
      go_simp
      go_wp2_with fail
      have HPd := hide (HP.out.on (below_drew1 wr))
      refine (wordIn_any o f wr.drew HO.out (HT.out.on HPd.out.b)).mono ?_
      rintro e w5 ⟨rfl, b5⟩
      have HP5 := hide (HPd.out.on b5)
      have u1 := HP5.out.s.c1
      simp only at u1
      refine hK.out _ _ ⟨HP5.out.x, u1⟩ (fun hHeld => ?_)
      clear hK K
      obtain ⟨b6, q6, w6, hrun, R6, A6⟩ := runsT HP5.out.r (L := [bs (fdT o f)]) (m := 1) (cs := #[.string (bs (fdT o f))]) rfl rfl (by omega) 30
      have HP6 := hide (HP5.out.app R6 A6)
      rw [← HE.out] at HP6
      have v1 := HP6.out.s.c1
      simp only at v1
      clear R6 A6
      refine wpAnyH_ready (rs := [7]) (by kernel_rfl) (by simp) ?_
      refine AllReadyH.cons rfl (fun K hK => ?_) ?_
      rotate_left
      · exact AllReadyH.nil
      go_simp
      refine hK.out _ _ ⟨HP5.out.x.below (below_new _ _), (by have := (HP5.out.s.below (below_new w5 (.cells #[.string (bs (fdT o f))] 9))).c1; exact this)⟩ (fun hHeld => ?_)
      clear hK K
      refine wpAnyH_ready (rs := [8]) (by kernel_rfl) (by simp) ?_
      refine AllReadyH.cons rfl (fun K hK => ?_) ?_
      rotate_left
      · exact AllReadyH.nil
      refine step_appT (by rfl) (.tmp 18) (.tmp 25) (by rfl) (by rfl) (by rfl) hrun ?_
      refine hK.out _ _ ⟨HP6.out.x, v1⟩ (fun hHeld => ?_)
      clear hK K
      refine wpAnyH_take (i := 9) (oi := { dst := some 4, op := Op.assign (Operand.tmp 26), type := 30, pos := "script.go:29", after := #[{ on := 8, ground := Ground.data }, { on := 8, ground := Ground.chain }, { on := 0, ground := Ground.phase }, { on := 1, ground := Ground.phase }, { on := 2, ground := Ground.phase }, { on := 3, ground := Ground.phase }, { on := 4, ground := Ground.phase }, { on := 5, ground := Ground.phase }, { on := 6, ground := Ground.phase }, { on := 7, ground := Ground.phase }, { on := 8, ground := Ground.phase }], guard := none }) (v := ?_) rfl (by kernel_rfl) (by kernel_rfl) (by kernel_rfl) (fun _ _ _ h => h) (Or.inl ⟨by rfl, ?_⟩) (by assumption) ?_
      rotate_left
      · (intro w hSw; (try dsimp only at hSw); go_simp); first | done | with_reducible rfl
      simp only [Act.put, List.setIfInBounds_toArray]
      refine wpAnyH_done (by kernel_rfl) ?_ _
      clear hHeld
      go_wp2_with fail
      go_roundw
      case rel => exact ⟨k + 1, m + 1, q6, b6, by omega, by go_num, rfl, by have := Hm.out; omega, HP6⟩
      case measure => simp [intOf]; omega
    · have HF : Hid (fl.take k = fl) := List.take_of_length_le (by have := Hfn.out; omega)
      have HPf := HP.out
      rw [HF.out, ← Hfl.out] at HPf
      have HJ := hide (joinS HPf.r (by have := Hm.out; omega) (by omega) [32] (by rw [wds_join]; have := HJl.out; have := HO.out.sk; omega))
      rw [wds_join] at HJ
      have HBf := hide HPf.b
      clear HPf
      go_wp2_with (go_at_call 15; refine HJ.out.mono ?_; rintro e w9 ⟨rfl, b9⟩)
      go_ret
      exact ⟨rfl, HBf.out.trans (b9.mono HBf.out.size)⟩
end Go.Proofs.YtpnnlfhknnnfhaaGreatDoor
