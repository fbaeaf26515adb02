/- FSi -/
import Derived.Test.YtnghfnhpjdafmaaBk48
import Derived.Deep.CutRange
namespace Go.Proofs.Ytnghfnhpjdafmaa
open Go.RowKit
attribute [local go_sem ↓] ldP_eq stP_eq ldTo_eq stTo_eq bldT_eq run_bldT run_bldT0 run_bldT1
attribute [local go_sem] zero_PC cells_PV PC_size cells_ToV ToC_size zero_ToC
variable {w w' w2 W W' : World} {g gv gr : Nat} {Z : List Int}

/-- a token in form lies there -/
structure TS (w W : World) (g : Nat) (c : Int) (p : Pv) : Prop where
  box : ToBox W g (mkT c p)
  src : PSrc W p
  bel : Below w.heap.size w W
  ok : TokOk c p.P
def TSx (w W : World) (g : Nat) : Prop := ∃ c p, TS w W g c p
theorem src_keep {q : Pv} (h : PSrc W q) (hv : ∀ k, U.blk q.vo = some k → W'.heap[k]? = W.heap[k]?) (hc : ∀ k, U.blk q.co = some k → W'.heap[k]? = W.heap[k]?) : PSrc W' q := by
  refine ⟨⟨h.vec.1, h.vec.2.1, fun ad e t ht => ?_⟩, h.cloud.off fun ad e => hc _ (by rw [e]; rfl), h.big⟩
  rw [World.cell?_of_block (w := W) (by rw [block_of_add]; exact hv _ (by rw [e]; rfl))]
  exact h.vec.2.2 ad e t ht
theorem emit_len : ∀ (n b : Nat), 5 * (emit n b).1.length + n % 5 = n := fun n => by
  induction n using Nat.strongRecOn with
  | _ n ih =>
    intro b
    by_cases h5 : 5 ≤ n
    · have := ih (n - 5) (by omega) (b % 2 ^ (n - 5))
      rw [emit_ge h5, List.length_cons]
      omega
    · rw [emit_lt h5, List.length_nil]
      omega
theorem spell_len : ∀ (Y : List Int) (n b : Nat), n < 5 → n + 8 * Y.length ≤ 5 * (spellF n b Y).length
  | [], n, b, hn => by
    rw [spellF]
    split
    · simp; omega
    · simp; omega
  | c :: t, n, b, hn => by
    have h1 := emit_len (n + 8) (b * 256 + c.toNat)
    have h2 := spell_len t ((n + 8) % 5) (emit (n + 8) (b * 256 + c.toNat)).2 (Nat.mod_lt _ (by decide))
    rw [spellF, List.length_append, List.length_cons]
    omega
theorem text_six (c : Int) (P : Pst) : 6 ≤ (textL c P).length := by
  have h1 := spell_len (tokB c P) 0 0 (by decide)
  have h2 := numB_pos c.toNat
  have h3 := numB_pos P.vec.length
  have h4 := numB_pos P.cloud.length
  have h5 : 3 ≤ (tokB c P).length := by simp only [tokB, pastB, nB, List.length_append]; omega
  have h6 : (bodyF c P).length = (spellF 0 0 (tokB c P)).length := rfl
  rw [textL_len]
  omega
theorem text_max {c : Int} {P : Pst} (h : TokOk c P) : (textL c P).length ≤ 400000000100 := by
  have h1 := (bodyF_is c P).2
  have h2 := tokB_len h (by have := tok_bd h; omega)
  rw [textL_len]
  omega
/-- bytes that may be written over -/
structure SB (w : World) (q n : Nat) (Z : List Int) : Prop where
  len : Z.length = n
  cell : ∀ t, t < n → w.cell? ⟨q, t, none⟩ = some (.int .u8 (Z.getD t 0))
  froz : ∀ t, t < n → w.frozen? ⟨q, t, none⟩ = false
variable {q n k : Nat} {y : Int}
theorem SB.set (h : SB w q n Z) (k : Nat) (y : Int) : SB (w.setCell ⟨q, k, none⟩ (.int .u8 y)) q n (Z.set k y) := by
  refine ⟨by rw [List.length_set]; exact h.len, fun t ht => ?_, fun t ht => by rw [World.frozen?_setCell]; exact h.froz t ht⟩
  have hc := h.cell t ht
  have hl := h.len
  by_cases e : k = t
  · subst e
    rw [World.cell?_setCell_same _ _ _ hc, List.getD_eq_getElem?_getD, List.getElem?_set_self (by omega)]
    rfl
  · rw [World.cell?_setCell_other _ _ _ _ (by intro x; cases x; exact e rfl), hc, List.getD_eq_getElem?_getD, List.getD_eq_getElem?_getD, List.getElem?_set_ne e]
theorem SB.below {W2 : World} (h : SB w q n Z) (hb : Below w.heap.size w W2) : SB W2 q n Z :=
  ⟨h.len, fun t ht => (hb.cell (World.block_lt_of_cell? w _ (h.cell t ht))).trans (h.cell t ht), fun t ht => by
    rw [World.frozen?_of_block (w := w) (w' := W2) (a := ⟨q, t, none⟩) (hb.block q (World.block_lt_of_cell? w _ (h.cell t ht)))]; exact h.froz t ht⟩
theorem SB.bs (h : SB w q n Z) (c : Nat) : U.BS w (some ⟨q, 0, none⟩) n c Z :=
  ⟨h.len, (fun e => by cases e), fun ad e t ht => by obtain rfl := Option.some.inj e; rw [Addr.add_lit, Nat.zero_add]; exact h.cell t ht⟩
theorem strL_getD (s : ByteArray) (t : Nat) : (strL s).getD t 0 = sB s t := by
  unfold strL sB
  rw [List.getD_eq_getElem?_getD, List.getElem?_map, Array.getElem?_toList, Array.getD_eq_getD_getElem?]
  cases s.data[t]? <;> rfl
theorem conv_SB (w : World) (s : ByteArray) : ∃ (w' : World) (c : Nat), (convert 9 59 (.string s)).run Try.prog w = .ok (.slice (some ⟨w.heap.size, 0, none⟩) s.size c) w' ∧ SB w' w.heap.size s.size (strL s) ∧ Below w.heap.size w w' := by
  refine ⟨Lib.bytesWorld w 5 s, _, Lib.run_convert_string_bytes w 9 59 5 s Try.underlying9 Try.underlying59 Try.underlying5, ⟨strL_len s, fun t ht => ?_, fun t ht => ?_⟩, ⟨rfl, rfl, rfl, by rw [Lib.bytesWorld_size]; omega, fun k hk => Lib.bytesWorld_at_old w _ s k hk⟩⟩
  · rw [Lib.bytesWorld_cell w _ s t ht, strL_getD]
    unfold sB
    rw [Array.getD_eq_getD_getElem?, List.getD_eq_getElem?_getD, Array.getElem?_toList]
  · have hz : s.size ≤ (Lib.bytesCells w 5 s).size := by
      unfold Lib.bytesCells
      rw [Array.size_append, Array.size_map]
      exact Nat.le_add_right _ _
    unfold World.frozen?
    rw [Lib.bytesWorld_at_new]
    have : ¬ (Lib.bytesCells w 5 s).size ≤ t := by omega
    simp [this]
theorem at_mod (a : Int) (n : Nat) (h : 0 < n) : ∃ k : Nat, k < n ∧ (IntKind.u64.wrap a).tmod (n : Int) = (k : Int) := by
  have h0 : 0 ≤ IntKind.u64.wrap a := by simp [IntKind.wrap, IntKind.signed, IntKind.bits]; omega
  refine ⟨(IntKind.u64.wrap a).toNat % n, Nat.mod_lt _ h, ?_⟩
  rw [Int.tmod_eq_emod_of_nonneg h0]
  obtain ⟨z, hz⟩ := Int.eq_ofNat_of_zero_le h0
  rw [hz]
  simp
theorem below_setCell {w W : World} {q k : Nat} {v : Value} (h : Below w.heap.size w W) (hq : w.heap.size ≤ q) : Below w.heap.size w (W.setCell ⟨q, k, none⟩ v) :=
  ⟨(U.setCell_os _ _ _).trans h.os, (U.setCell_tape _ _ _).trans h.tape, (U.setCell_output _ _ _).trans h.output, by rw [U.set_size]; exact h.size, fun j hj => (U.set_other W q k j v (by omega)).trans (h.block j hj)⟩
theorem belD {w W : World} (h : Below w.heap.size w W) : Below w.heap.size w W.drew := ⟨h.os, h.tape, h.output, h.size, h.block⟩
theorem mem_set {L : List Int} {y : Int} (h : ∀ t, 0 ≤ L.getD t 0 ∧ L.getD t 0 ≤ 255) (hy : 0 ≤ y ∧ y ≤ 255) (k : Nat) : ∀ x ∈ L.set k y, 0 ≤ x ∧ x ≤ 255 := by
  intro x hx
  rcases List.mem_or_eq_of_mem_set hx with h1 | rfl
  · obtain ⟨t, ht, rfl⟩ := List.mem_iff_getElem.1 h1
    have := h t
    rw [List.getD_eq_getElem?_getD, List.getElem?_eq_getElem ht] at this
    exact this
  · exact hy
set_option maxRecDepth 100000 in
set_option maxHeartbeats 8000000 in
theorem slips_any (c : Int) (p : Pv) (a : Int) (to_ : Int) (w : World) (hS : PSrc w p) (h0 : 0 ≤ to_ ∧ to_ ≤ 255) : Calls Try.prog 7 #[ToV (mkT c p), .int .i64 a, .int .u8 to_] w fun e w' => e = .returned (.bool true) ∧ Below w.heap.size w w' := by
  have HX := hide (ToBox_new w (mkT c p))
  have HB := hide (below_new w (.cells (ToC (mkT c p)) 52))
  have HS := hide (hS.below HB.out)
  have HO := hide h0
  clear hS h0
  obtain ⟨wk, hwk⟩ : ∃ wk, w.alloc (.cells (ToC (mkT c p)) 52) = wk := ⟨_, rfl⟩
  obtain ⟨G, hG⟩ : ∃ G, w.heap.size = G := ⟨_, rfl⟩
  have HG : Hid (w.heap.size ≤ G) := by show _ ≤ _; omega
  rw [hwk] at HX HB HS
  rw [hG] at HX
  go_enter Try.func7, Try.ntmps7
  go_wp2_with fail
  refine (known_any _).mono ?_
  rintro e w2 ⟨rfl, b2⟩
  have HB2 := hide (HB.out.trans (b2.mono HB.out.size))
  have HX2 := hide (HX.out.below b2)
  have HS2 := hide (HS.out.below b2)
  have l2 := run_ldTo HX2.out
  clear b2 HX HS HB hwk
  go_wp2_with fail
  refine (rtCheck_any c p _ HS2.out).mono ?_
  rintro e w3 ⟨x, rfl, hx, b3⟩
  have HX3 := hide (HX2.out.below b3)
  have HS3 := hide (HS2.out.below b3)
  have HB3 := hide (HB2.out.trans (b3.mono HB2.out.size))
  have HCk := hide hx
  clear l2 HX2 HS2 HB2 b3 hx
  go_upto_if 19 with fail
  go_cut [] from 15 to 111 (fun wx => Hid (TSx w wx G))
  case first =>
    rcases HCk.out with ⟨rfl, hn⟩ | ⟨rfl, hy⟩
    · obtain ⟨g1, hg1⟩ : ∃ g1, w3.heap.size = g1 := ⟨_, rfl⟩
      have S1 := src_P37 w3 g1 hg1
      have b1 := below_new w3 (.cells #[.int .i64 3, .int .i64 0, .int .i64 7] 3)
      obtain ⟨w4, hw4⟩ : ∃ w4, w3.alloc (.cells #[.int .i64 3, .int .i64 0, .int .i64 7] 3) = w4 := ⟨_, rfl⟩
      rw [hw4] at S1 b1
      obtain ⟨q, hq⟩ : ∃ q : Pv, (⟨some ⟨g1, 0, none⟩, 3, 3, none, 0, 0, P37⟩ : Pv) = q := ⟨_, rfl⟩
      have hqq : q.P = P37 := by rw [← hq]
      have hbp : (PC pv0).setIfInBounds 0 (.slice (some ⟨g1, 0, none⟩) 3 3) = PC q := by rw [← hq]; rfl
      have hz0 : ¬ PC pv0 = #[] := by simp [PC]
      rw [hq] at S1
      have t4 := run_stTo (m' := mkT 5 q) (HX3.out.below b1)
      have HE : Hid (TSx w (w4.setRow G (ToC (mkT 5 q))) G) := by
        have hv : ∀ k, U.blk q.vo = some k → k = g1 := fun k e => by rw [← hq] at e; exact (Option.some.inj e).symm
        refine ⟨5, q, (HX3.out.below b1).setRow, ?_, below_setRow (HB3.out.trans (b1.mono HB3.out.size)) (by have := HG.out; omega), by rw [hqq]; exact ok_P37⟩
        have hlt := HX3.out.lt
        have := src_keep (q := q) S1 (W' := w4.setRow G (ToC (mkT 5 q))) (fun k e => setRow_other _ _ _ _ (by have := hv k e; omega)) (fun k e => by rw [← hq] at e; cases e)
        exact this
      clear hn S1 b1 hq hqq
      go_wp2_with fail
      go_meet
      case rel => exact HE
    · have HE : Hid (TSx w w3 G) := ⟨c, p, HX3.out, HS3.out, HB3.out, hy⟩
      clear hy
      go_wp2_with fail
      go_meet
      case rel => exact HE
  case rest =>
    obtain ⟨d, q, T⟩ := hcut.out
    have l4 := run_ldTo T.box
    have HT := hide T
    clear T hcut hG HX3 HS3 HB3 HCk
    go_wp2_with fail
    refine (text_any d q _ HT.out.src).mono ?_
    rintro e w5 (⟨hno, -, -⟩ | ⟨-, rfl, b5⟩)
    · exact absurd HT.out.ok hno
    have HB5 := hide (HT.out.bel.trans (b5.mono HT.out.bel.size))
    obtain ⟨L, hL⟩ : ∃ L, textL d q.P = L := ⟨_, rfl⟩
    have HO5 : Hid (strL (strOfNums L) = L ∧ L.length ≤ 400000000100) := by subst hL; exact ⟨strL_of (textL_ob d q.P), text_max HT.out.ok⟩
    have h6 : 6 ≤ L.length := by subst hL; exact text_six d q.P
    rw [hL]
    have HL := hide hL
    obtain ⟨s, hs⟩ : ∃ s, strOfNums L = s := ⟨_, rfl⟩
    have hsz : s.size = L.length := by rw [← hs, ← strL_len, HO5.out.1]
    obtain ⟨n, hn⟩ : ∃ n, L.length = n := ⟨_, rfl⟩
    rw [hn] at h6 hsz
    rw [hs]
    have HN : Hid (strL s = L ∧ L.length = n ∧ n ≤ 400000000100) := by rw [← hs, ← hn]; exact ⟨HO5.out.1, rfl, HO5.out.2⟩
    have hn4 := HN.out.2.2
    obtain ⟨w6, c6, hcv, X6, b6⟩ := conv_SB w5 s
    obtain ⟨g6, hg6⟩ : ∃ g6, w5.heap.size = g6 := ⟨_, rfl⟩
    rw [hg6] at hcv X6
    rw [hsz] at hcv X6
    have HX6 := hide X6
    have HB6 := hide (HB5.out.trans (b6.mono HB5.out.size))
    have HG6 : Hid (w.heap.size ≤ g6) := by show _ ≤ _; have := HB5.out.size; omega
    have h6i : (6 : Int) ≤ (n : Int) := by omega
    obtain ⟨k, hkn, hkm⟩ := at_mod a n (by omega)
    have hkl : (k : Int) < (n : Int) := by omega
    obtain ⟨x, hx⟩ : ∃ x, L.getD k 0 = x := ⟨_, rfl⟩
    have x6 := HX6.out.cell k hkn
    have z6 := HX6.out.froz k hkn
    rw [HN.out.1, hx] at x6
    have HXx := hide hx
    have HBS : Hid (∀ t, 0 ≤ L.getD t 0 ∧ L.getD t 0 ≤ 255) := by rw [show L = textL d q.P from HL.out.symm]; exact oc_of_ob (textL_ob d q.P)
    clear l4 b5 hL hn hs HO5 X6 b6 hx
    go_upto_if 49 with fail
    clear hkm hcv hg6
    go_cut [11, 12] from 15 to 111 (fun u v wx => Hid (Below w.heap.size w wx))
    case first =>
      by_cases hxt : x = to_
      · have hxb : (x != to_) = false := by simp [hxt]
        go_wp2_with fail
        go_meet
        case rel => exact HB6
      · have hxb : (x != to_) = true := by simpa using hxt
        have X7 := HX6.out.set k to_
        have B7 : Below w.heap.size w (w6.setCell ⟨g6, k, none⟩ (.int .u8 to_)) := below_setCell HB6.out HG6.out
        obtain ⟨w7, hw7⟩ : ∃ w7, w6.setCell ⟨g6, k, none⟩ (.int .u8 to_) = w7 := ⟨_, rfl⟩
        rw [hw7] at X7 B7
        rw [HN.out.1] at X7
        have hst := (X7.bs c6).str
        have hob : ∀ y ∈ L.set k to_, 0 ≤ y ∧ y ≤ 255 := mem_set HBS.out HO.out k
        have HP := hide (parse_any (strOfNums (L.set k to_)) w7 (by rw [← strL_len, strL_of hob, List.length_set]; have := HN.out; omega))
        rw [strL_of hob] at HP
        have HB7 := hide B7
        have hbd : ∀ d' P', L.set k to_ ≠ textL d' P' := fun d' P' e => by
          refine hxt ?_
          have h1 := slip1 (c := d) (P := q.P) (c' := d') (P' := P') (k := k) (x := to_) (by rw [HL.out, HN.out.2.1]; exact hkn) (by rw [HL.out]; exact e.symm)
          rw [HL.out, HXx.out] at h1
          exact h1.symm
        have HBd := hide hbd
        clear X7 B7 hob hbd
        go_wp2_with fail
        clear hw7 hst x6 z6
        refine HP.out.mono ?_
        rintro e w8 ⟨b8, h8⟩
        rcases h8 with ⟨d', p', -, h8, -, -⟩ | ⟨-, rfl⟩
        · exact absurd h8 (HBd.out d' p'.P)
        obtain ⟨g8, hg8⟩ : ∃ g8, w8.heap.size = g8 := ⟨_, rfl⟩
        obtain ⟨w9, hr9, B9, b9, s9⟩ := madeTo w8 to0 g8 hg8
        have l9 := run_ldTo B9
        have HB9 := hide (HB7.out.trans ((b8.trans (b9.mono b8.size)).mono HB7.out.size))
        have HEq := hide (rtEqual_true 0 pv0 pv0 w9 (PSrc.zero _) (PSrc.zero _) rfl)
        clear b8 b9 s9 B9 HP
        go_wp2_with fail
        clear hg8 hr9
        refine HEq.out.mono ?_
        rintro e w10 ⟨rfl, b10⟩
        have HBA := hide (HB9.out.trans (b10.mono HB9.out.size))
        clear b10 l9
        go_wp2_with fail
        go_meet
        case rel => exact HBA
    case rest =>
      rename World => wz
      have HBz := hcut
      obtain ⟨m2, hm2⟩ : ∃ m2 : Nat, m2 + 2 = n := ⟨n - 2, by omega⟩
      have hm2i : (n : Int) - 2 = (m2 : Int) := by omega
      have hm2p : 0 < m2 := by omega
      have hm2z : ¬ ((m2 : Nat) : Int) = 0 := by omega
      have hm2l : m2 ≤ 400000000100 := by omega
      obtain ⟨j, hjm, hjj⟩ := at_mod a m2 hm2p
      have hj0 : j < n := by omega
      obtain ⟨j1, hj1⟩ : ∃ j1, j + 1 = j1 := ⟨_, rfl⟩
      have hj1i : (j : Int) + 1 = (j1 : Int) := by omega
      have hj1n : j1 < n := by omega
      have hjl : (j : Int) < (n : Int) := by omega
      have hj1l : (j1 : Int) < (n : Int) := by omega
      have hwj : IntKind.i64.wrap (j1 : Int) = (j1 : Int) := by rw [IntKind.wrap_i64]; omega
      have h0j : 0 ≤ (j1 : Int) := by omega
      have HJ : Hid (j + 2 < n ∧ j + 1 = j1) := ⟨by omega, hj1⟩
      obtain ⟨wa, ca, hca, XA, ba⟩ := conv_SB wz s
      obtain ⟨ga, hga⟩ : ∃ ga, wz.heap.size = ga := ⟨_, rfl⟩
      rw [hga, hsz] at hca XA
      have HBa := hide (HBz.out.trans (ba.mono HBz.out.size))
      have HGa : Hid (w.heap.size ≤ ga) := by show _ ≤ _; have := HBz.out.size; omega
      rw [HN.out.1] at XA
      obtain ⟨x1, hx1⟩ : ∃ x1, L.getD j 0 = x1 := ⟨_, rfl⟩
      obtain ⟨y1, hy1⟩ : ∃ y1, L.getD j1 0 = y1 := ⟨_, rfl⟩
      have cx := XA.cell j hj0
      have cy := XA.cell j1 hj1n
      rw [hx1] at cx
      rw [hy1] at cy
      have HXA := hide XA
      have HXY : Hid (L.getD j 0 = x1 ∧ L.getD j1 0 = y1) := ⟨hx1, hy1⟩
      clear hm2 hj1 XA ba hx1 hy1 x6 z6 hkn hkl hcut
      go_upto_region 17 with fail
      clear hjj hca hga hm2i
      refine wp_region_held_drew (S := fun v => v.cell? ⟨ga, j, none⟩ = some (.int .u8 x1) ∧ v.cell? ⟨ga, j1, none⟩ = some (.int .u8 y1)) (by kernel_rfl) (⟨cx, cy⟩) (fun hHeld => ?_)
      refine wpAnyH_take (i := 0) (oi := { dst := some 78, op := Op.move (Operand.tmp 10), type := 59, pos := "law.go:242", after := #[], guard := none }) (v := ?_) rfl (by kernel_rfl) (by kernel_rfl) (by kernel_rfl) (fun _ _ _ h => h) (Or.inl ⟨by rfl, ?_⟩) (by assumption) ?_
      rotate_left
      · (intro w hSw; (try dsimp only at hSw); go_simp); first | done | with_reducible rfl
      simp only [Act.put, List.setIfInBounds_toArray, List.set_cons_zero, List.set_cons_succ]
      refine wpAnyH_take (i := 1) (oi := { dst := some 79, op := Op.move (Operand.tmp 9), type := 3, pos := "law.go:242", after := #[], guard := none }) (v := ?_) rfl (by kernel_rfl) (by kernel_rfl) (by kernel_rfl) (fun _ _ _ h => h) (Or.inl ⟨by rfl, ?_⟩) (by assumption) ?_
      rotate_left
      · (intro w hSw; (try dsimp only at hSw); go_simp); first | done | with_reducible rfl
      simp only [Act.put, List.setIfInBounds_toArray, List.set_cons_zero, List.set_cons_succ]
      refine wpAnyH_take (i := 2) (oi := { dst := some 80, op := Op.indexAddr 59 (Operand.tmp 78) (Operand.tmp 79), type := 0, pos := "law.go:242", after := #[{ on := 0, ground := Ground.data }, { on := 1, ground := Ground.data }], guard := none }) (v := ?_) rfl (by kernel_rfl) (by kernel_rfl) (by kernel_rfl) (fun _ _ _ h => h) (Or.inl ⟨by rfl, ?_⟩) (by assumption) ?_
      rotate_left
      · (intro w hSw; (try dsimp only at hSw); go_simp); first | done | with_reducible rfl
      simp only [Act.put, List.setIfInBounds_toArray, List.set_cons_zero, List.set_cons_succ]
      refine wpAnyH_take (i := 3) (oi := { dst := some 81, op := Op.load 5 (Operand.tmp 80), type := 5, pos := "law.go:242", after := #[{ on := 2, ground := Ground.data }], guard := none }) (v := ?_) rfl (by kernel_rfl) (by kernel_rfl) (by kernel_rfl) (fun _ _ _ h => h) (Or.inl ⟨by rfl, ?_⟩) (by assumption) ?_
      rotate_left
      · (intro w hSw; (try dsimp only at hSw); go_simp); first | done | with_reducible rfl
      simp only [Act.put, List.setIfInBounds_toArray, List.set_cons_zero, List.set_cons_succ]
      refine wpAnyH_take (i := 4) (oi := { dst := some 82, op := Op.move (Operand.tmp 10), type := 59, pos := "law.go:242", after := #[], guard := none }) (v := ?_) rfl (by kernel_rfl) (by kernel_rfl) (by kernel_rfl) (fun _ _ _ h => h) (Or.inl ⟨by rfl, ?_⟩) (by assumption) ?_
      rotate_left
      · (intro w hSw; (try dsimp only at hSw); go_simp); first | done | with_reducible rfl
      simp only [Act.put, List.setIfInBounds_toArray, List.set_cons_zero, List.set_cons_succ]
      refine wpAnyH_take (i := 5) (oi := { dst := some 83, op := Op.move (Operand.tmp 9), type := 3, pos := "law.go:242", after := #[], guard := none }) (v := ?_) rfl (by kernel_rfl) (by kernel_rfl) (by kernel_rfl) (fun _ _ _ h => h) (Or.inl ⟨by rfl, ?_⟩) (by assumption) ?_
      rotate_left
      · (intro w hSw; (try dsimp only at hSw); go_simp); first | done | with_reducible rfl
      simp only [Act.put, List.setIfInBounds_toArray, List.set_cons_zero, List.set_cons_succ]
      refine wpAnyH_take (i := 6) (oi := { dst := some 84, op := Op.binOp BinOp.add 3 (Operand.tmp 83) (Operand.const (Value.int IntKind.i64 1)) 3, type := 3, pos := "law.go:242", after := #[{ on := 5, ground := Ground.data }], guard := none }) (v := ?_) rfl (by kernel_rfl) (by kernel_rfl) (by kernel_rfl) (fun _ _ _ h => h) (Or.inl ⟨by rfl, ?_⟩) (by assumption) ?_
      rotate_left
      · (intro w hSw; (try dsimp only at hSw); go_simp); first | done | with_reducible rfl
      simp only [Act.put, List.setIfInBounds_toArray, List.set_cons_zero, List.set_cons_succ]
      refine wpAnyH_take (i := 7) (oi := { dst := some 85, op := Op.indexAddr 59 (Operand.tmp 82) (Operand.tmp 84), type := 0, pos := "law.go:242", after := #[{ on := 4, ground := Ground.data }, { on := 6, ground := Ground.data }], guard := none }) (v := ?_) rfl (by kernel_rfl) (by kernel_rfl) (by kernel_rfl) (fun _ _ _ h => h) (Or.inl ⟨by rfl, ?_⟩) (by assumption) ?_
      rotate_left
      · (intro w hSw; (try dsimp only at hSw); go_simp); first | done | with_reducible rfl
      simp only [Act.put, List.setIfInBounds_toArray, List.set_cons_zero, List.set_cons_succ]
      refine wpAnyH_take (i := 8) (oi := { dst := some 86, op := Op.load 5 (Operand.tmp 85), type := 5, pos := "law.go:242", after := #[{ on := 7, ground := Ground.data }], guard := none }) (v := ?_) rfl (by kernel_rfl) (by kernel_rfl) (by kernel_rfl) (fun _ _ _ h => h) (Or.inl ⟨by rfl, ?_⟩) (by assumption) ?_
      rotate_left
      · (intro w hSw; (try dsimp only at hSw); go_simp); first | done | with_reducible rfl
      simp only [Act.put, List.setIfInBounds_toArray, List.set_cons_zero, List.set_cons_succ]
      by_cases hxy : x1 = y1
      · have hxb : (x1 != y1) = false := by simp [hxy]
        refine wpAnyH_take (i := 9) (oi := { dst := some 87, op := Op.binOp BinOp.neq 5 (Operand.tmp 81) (Operand.tmp 86) 5, type := 4, pos := "law.go:242", after := #[{ on := 3, ground := Ground.data }, { on := 8, ground := Ground.data }], guard := none }) (v := ?_) rfl (by kernel_rfl) (by kernel_rfl) (by kernel_rfl) (fun _ _ _ h => h) (Or.inl ⟨by rfl, ?_⟩) (by assumption) ?_
        rotate_left
        · (intro w hSw; (try dsimp only at hSw); go_simp); first | done | with_reducible rfl
        simp only [Act.put, List.setIfInBounds_toArray, List.set_cons_zero, List.set_cons_succ]
        refine wpAnyH_done (by kernel_rfl) ?_ _
        clear hHeld
        go_wp2_with fail
        go_ret
        exact ⟨rfl, belD HBa.out⟩
      · have hxb : (x1 != y1) = true := by simpa using hxy
        refine wpAnyH_take (i := 9) (oi := { dst := some 87, op := Op.binOp BinOp.neq 5 (Operand.tmp 81) (Operand.tmp 86) 5, type := 4, pos := "law.go:242", after := #[{ on := 3, ground := Ground.data }, { on := 8, ground := Ground.data }], guard := none }) (v := ?_) rfl (by kernel_rfl) (by kernel_rfl) (by kernel_rfl) (fun _ _ _ h => h) (Or.inl ⟨by rfl, ?_⟩) (by assumption) ?_
        rotate_left
        · (intro w hSw; (try dsimp only at hSw); go_simp); first | done | with_reducible rfl
        simp only [Act.put, List.setIfInBounds_toArray, List.set_cons_zero, List.set_cons_succ]
        refine wpAnyH_done (by kernel_rfl) ?_ _
        clear hHeld
        go_upto_region 18 with fail
        have dx := HXA.out.cell j hj0
        have dy := HXA.out.cell j1 hj1n
        have fx := HXA.out.froz j hj0
        rw [HXY.out.1] at dx
        rw [HXY.out.2] at dy
        have X1 := HXA.out.set j y1
        have ex := X1.cell j1 hj1n
        have fy := HXA.out.froz j1 hj1n
        have X2 := (X1.set j1 x1).below (W2 := ((wa.setCell ⟨ga, j, none⟩ (.int .u8 y1)).setCell ⟨ga, j1, none⟩ (.int .u8 x1)).drew.drew) ⟨rfl, rfl, rfl, Nat.le_refl _, fun _ _ => rfl⟩
        have B2 : Below w.heap.size w ((wa.setCell ⟨ga, j, none⟩ (.int .u8 y1)).setCell ⟨ga, j1, none⟩ (.int .u8 x1)).drew.drew := belD (belD (below_setCell (below_setCell HBa.out HGa.out) HGa.out))
        obtain ⟨wb2, hwb2⟩ : ∃ wb2, ((wa.setCell ⟨ga, j, none⟩ (.int .u8 y1)).setCell ⟨ga, j1, none⟩ (.int .u8 x1)).drew.drew = wb2 := ⟨_, rfl⟩
        rw [hwb2] at X2 B2
        clear X1
        refine wp_region_held_drew (S := fun _ => True) (by kernel_rfl) (trivial) (fun hHeld => ?_)
        refine wpAnyH_take (i := 0) (oi := { dst := some 88, op := Op.move (Operand.tmp 10), type := 59, pos := "law.go:243", after := #[], guard := none }) (v := ?_) rfl (by kernel_rfl) (by kernel_rfl) (by kernel_rfl) (fun _ _ _ h => h) (Or.inl ⟨by rfl, ?_⟩) (by assumption) ?_
        rotate_left
        · (intro w hSw; (try dsimp only at hSw); go_simp); first | done | with_reducible rfl
        simp only [Act.put, List.setIfInBounds_toArray, List.set_cons_zero, List.set_cons_succ]
        refine wpAnyH_take (i := 1) (oi := { dst := some 89, op := Op.move (Operand.tmp 9), type := 3, pos := "law.go:243", after := #[], guard := none }) (v := ?_) rfl (by kernel_rfl) (by kernel_rfl) (by kernel_rfl) (fun _ _ _ h => h) (Or.inl ⟨by rfl, ?_⟩) (by assumption) ?_
        rotate_left
        · (intro w hSw; (try dsimp only at hSw); go_simp); first | done | with_reducible rfl
        simp only [Act.put, List.setIfInBounds_toArray, List.set_cons_zero, List.set_cons_succ]
        refine wpAnyH_take (i := 2) (oi := { dst := some 90, op := Op.move (Operand.tmp 10), type := 59, pos := "law.go:243", after := #[{ on := 15, ground := Ground.gcOnly Departure.lateStores }], guard := none }) (v := ?_) rfl (by kernel_rfl) (by kernel_rfl) (by kernel_rfl) (fun _ _ _ h => h) (Or.inl ⟨by rfl, ?_⟩) (by assumption) ?_
        rotate_left
        · (intro w hSw; (try dsimp only at hSw); go_simp); first | done | with_reducible rfl
        simp only [Act.put, List.setIfInBounds_toArray, List.set_cons_zero, List.set_cons_succ]
        refine wpAnyH_take (i := 3) (oi := { dst := some 91, op := Op.move (Operand.tmp 9), type := 3, pos := "law.go:243", after := #[{ on := 15, ground := Ground.gcOnly Departure.lateStores }], guard := none }) (v := ?_) rfl (by kernel_rfl) (by kernel_rfl) (by kernel_rfl) (fun _ _ _ h => h) (Or.inl ⟨by rfl, ?_⟩) (by assumption) ?_
        rotate_left
        · (intro w hSw; (try dsimp only at hSw); go_simp); first | done | with_reducible rfl
        simp only [Act.put, List.setIfInBounds_toArray, List.set_cons_zero, List.set_cons_succ]
        refine wpAnyH_take (i := 4) (oi := { dst := some 92, op := Op.binOp BinOp.add 3 (Operand.tmp 91) (Operand.const (Value.int IntKind.i64 1)) 3, type := 3, pos := "law.go:243", after := #[{ on := 3, ground := Ground.data }, { on := 15, ground := Ground.gcOnly Departure.lateStores }], guard := none }) (v := ?_) rfl (by kernel_rfl) (by kernel_rfl) (by kernel_rfl) (fun _ _ _ h => h) (Or.inl ⟨by rfl, ?_⟩) (by assumption) ?_
        rotate_left
        · (intro w hSw; (try dsimp only at hSw); go_simp); first | done | with_reducible rfl
        simp only [Act.put, List.setIfInBounds_toArray, List.set_cons_zero, List.set_cons_succ]
        refine wpAnyH_take (i := 5) (oi := { dst := some 93, op := Op.move (Operand.tmp 10), type := 59, pos := "law.go:243", after := #[], guard := none }) (v := ?_) rfl (by kernel_rfl) (by kernel_rfl) (by kernel_rfl) (fun _ _ _ h => h) (Or.inl ⟨by rfl, ?_⟩) (by assumption) ?_
        rotate_left
        · (intro w hSw; (try dsimp only at hSw); go_simp); first | done | with_reducible rfl
        simp only [Act.put, List.setIfInBounds_toArray, List.set_cons_zero, List.set_cons_succ]
        refine wpAnyH_take (i := 6) (oi := { dst := some 94, op := Op.move (Operand.tmp 9), type := 3, pos := "law.go:243", after := #[], guard := none }) (v := ?_) rfl (by kernel_rfl) (by kernel_rfl) (by kernel_rfl) (fun _ _ _ h => h) (Or.inl ⟨by rfl, ?_⟩) (by assumption) ?_
        rotate_left
        · (intro w hSw; (try dsimp only at hSw); go_simp); first | done | with_reducible rfl
        simp only [Act.put, List.setIfInBounds_toArray, List.set_cons_zero, List.set_cons_succ]
        refine wpAnyH_take (i := 7) (oi := { dst := some 95, op := Op.binOp BinOp.add 3 (Operand.tmp 94) (Operand.const (Value.int IntKind.i64 1)) 3, type := 3, pos := "law.go:243", after := #[{ on := 6, ground := Ground.data }], guard := none }) (v := ?_) rfl (by kernel_rfl) (by kernel_rfl) (by kernel_rfl) (fun _ _ _ h => h) (Or.inl ⟨by rfl, ?_⟩) (by assumption) ?_
        rotate_left
        · (intro w hSw; (try dsimp only at hSw); go_simp); first | done | with_reducible rfl
        simp only [Act.put, List.setIfInBounds_toArray, List.set_cons_zero, List.set_cons_succ]
        refine wpAnyH_take (i := 8) (oi := { dst := some 96, op := Op.indexAddr 59 (Operand.tmp 93) (Operand.tmp 95), type := 0, pos := "law.go:243", after := #[{ on := 5, ground := Ground.data }, { on := 7, ground := Ground.data }], guard := none }) (v := ?_) rfl (by kernel_rfl) (by kernel_rfl) (by kernel_rfl) (fun _ _ _ h => h) (Or.inl ⟨by rfl, ?_⟩) (by assumption) ?_
        rotate_left
        · (intro w hSw; (try dsimp only at hSw); go_simp); first | done | with_reducible rfl
        simp only [Act.put, List.setIfInBounds_toArray, List.set_cons_zero, List.set_cons_succ]
        refine wpAnyH_take (i := 10) (oi := { dst := some 98, op := Op.move (Operand.tmp 10), type := 59, pos := "law.go:243", after := #[], guard := none }) (v := ?_) rfl (by kernel_rfl) (by kernel_rfl) (by kernel_rfl) (fun _ _ _ h => h) (Or.inl ⟨by rfl, ?_⟩) (by assumption) ?_
        rotate_left
        · (intro w hSw; (try dsimp only at hSw); go_simp); first | done | with_reducible rfl
        simp only [Act.put, List.setIfInBounds_toArray, List.set_cons_zero, List.set_cons_succ]
        refine wpAnyH_take (i := 11) (oi := { dst := some 99, op := Op.move (Operand.tmp 9), type := 3, pos := "law.go:243", after := #[], guard := none }) (v := ?_) rfl (by kernel_rfl) (by kernel_rfl) (by kernel_rfl) (fun _ _ _ h => h) (Or.inl ⟨by rfl, ?_⟩) (by assumption) ?_
        rotate_left
        · (intro w hSw; (try dsimp only at hSw); go_simp); first | done | with_reducible rfl
        simp only [Act.put, List.setIfInBounds_toArray, List.set_cons_zero, List.set_cons_succ]
        refine wpAnyH_take (i := 12) (oi := { dst := some 100, op := Op.indexAddr 59 (Operand.tmp 98) (Operand.tmp 99), type := 0, pos := "law.go:243", after := #[{ on := 10, ground := Ground.data }, { on := 11, ground := Ground.data }], guard := none }) (v := ?_) rfl (by kernel_rfl) (by kernel_rfl) (by kernel_rfl) (fun _ _ _ h => h) (Or.inl ⟨by rfl, ?_⟩) (by assumption) ?_
        rotate_left
        · (intro w hSw; (try dsimp only at hSw); go_simp); first | done | with_reducible rfl
        simp only [Act.put, List.setIfInBounds_toArray, List.set_cons_zero, List.set_cons_succ]
        refine wpAnyH_ready (rs := [9, 13]) (by kernel_rfl) (by simp) ?_
        refine AllReadyH.cons rfl (fun K hK => ?_) (AllReadyH.cons rfl (fun K hK => ?_) AllReadyH.nil)
        · go_simp
          refine hK.out _ _ trivial (fun hHeld => ?_)
          clear hK K
          refine wpAnyH_ready (rs := [13]) (by kernel_rfl) (by simp) ?_
          refine AllReadyH.cons rfl (fun K hK => ?_) ?_
          rotate_left
          · exact AllReadyH.nil
          go_simp
          refine hK.out _ _ trivial (fun hHeld => ?_)
          clear hK K
          refine wpAnyH_take (i := 14) (oi := { dst := some 102, op := Op.indexAddr 59 (Operand.tmp 88) (Operand.tmp 89), type := 0, pos := "law.go:243", after := #[{ on := 0, ground := Ground.data }, { on := 1, ground := Ground.data }, { on := 0, ground := Ground.phase }, { on := 1, ground := Ground.phase }, { on := 2, ground := Ground.textOnly Departure.lateStores }, { on := 3, ground := Ground.textOnly Departure.lateStores }, { on := 4, ground := Ground.textOnly Departure.lateStores }, { on := 5, ground := Ground.phase }, { on := 6, ground := Ground.phase }, { on := 7, ground := Ground.phase }, { on := 8, ground := Ground.phase }, { on := 9, ground := Ground.phase }, { on := 10, ground := Ground.textOnly Departure.lateStores }, { on := 11, ground := Ground.textOnly Departure.lateStores }, { on := 12, ground := Ground.textOnly Departure.lateStoresUnsure }, { on := 13, ground := Ground.phase }], guard := none }) (v := ?_) rfl (by kernel_rfl) (by kernel_rfl) (by kernel_rfl) (fun _ _ _ h => h) (Or.inl ⟨by rfl, ?_⟩) (by assumption) ?_
          rotate_left
          · (intro w hSw; (try dsimp only at hSw); go_simp); first | done | with_reducible rfl
          simp only [Act.put, List.setIfInBounds_toArray, List.set_cons_zero, List.set_cons_succ]
          refine wpAnyH_ready (rs := [15]) (by kernel_rfl) (by simp) ?_
          refine AllReadyH.cons rfl (fun K hK => ?_) ?_
          rotate_left
          · exact AllReadyH.nil
          go_simp
          refine hK.out _ _ trivial (fun hHeld => ?_)
          clear hK K
          refine wpAnyH_take (i := 16) (oi := { dst := some 103, op := Op.indexAddr 59 (Operand.tmp 90) (Operand.tmp 92), type := 0, pos := "law.go:243", after := #[{ on := 2, ground := Ground.data }, { on := 4, ground := Ground.data }, { on := 0, ground := Ground.phase }, { on := 1, ground := Ground.phase }, { on := 2, ground := Ground.phase }, { on := 3, ground := Ground.phase }, { on := 4, ground := Ground.phase }, { on := 5, ground := Ground.phase }, { on := 6, ground := Ground.phase }, { on := 7, ground := Ground.phase }, { on := 8, ground := Ground.phase }, { on := 9, ground := Ground.phase }, { on := 10, ground := Ground.phase }, { on := 11, ground := Ground.phase }, { on := 12, ground := Ground.phase }, { on := 13, ground := Ground.phase }, { on := 14, ground := Ground.phase }, { on := 15, ground := Ground.phase }], guard := none }) (v := ?_) rfl (by kernel_rfl) (by kernel_rfl) (by kernel_rfl) (fun _ _ _ h => h) (Or.inl ⟨by rfl, ?_⟩) (by assumption) ?_
          rotate_left
          · (intro w hSw; (try dsimp only at hSw); go_simp); first | done | with_reducible rfl
          simp only [Act.put, List.setIfInBounds_toArray, List.set_cons_zero, List.set_cons_succ]
          refine wpAnyH_ready (rs := [17]) (by kernel_rfl) (by simp) ?_
          refine AllReadyH.cons rfl (fun K hK => ?_) ?_
          rotate_left
          · exact AllReadyH.nil
          go_simp
          refine hK.out _ _ trivial (fun hHeld => ?_)
          clear hK K
          refine wpAnyH_done (by kernel_rfl) ?_ _
          clear hHeld
          have hst := (X2.bs ca).str
          have hob : ∀ y ∈ (L.set j y1).set j1 x1, 0 ≤ y ∧ y ≤ 255 := by
            refine mem_set (oc_of_ob (mem_set HBS.out (by rw [← HXY.out.2]; exact HBS.out j1) j)) (by rw [← HXY.out.1]; exact HBS.out j) j1
          have HP := hide (parse_any (strOfNums ((L.set j y1).set j1 x1)) wb2 (by rw [← strL_len, strL_of hob, List.length_set, List.length_set]; have := HN.out; omega))
          rw [strL_of hob] at HP
          have hbd : ∀ d' P', (L.set j y1).set j1 x1 ≠ textL d' P' := fun d' P' e => by
            refine hxy ?_
            have h1 := slip2 (c := d) (P := q.P) (c' := d') (P' := P') (k := j) (by rw [HL.out, HN.out.2.1]; exact HJ.out.1) (by rw [HL.out, HJ.out.2, HXY.out.1, HXY.out.2]; exact e.symm)
            rw [HL.out, HJ.out.2, HXY.out.1, HXY.out.2] at h1
            exact h1
          have HBd := hide hbd
          have HBb := hide B2
          clear X2 B2 hob hbd hxb hxy
          go_wp2_with fail
          clear hst hwb2
          refine HP.out.mono ?_
          rintro e w8 ⟨b8, h8⟩
          rcases h8 with ⟨d', p', -, h8, -, -⟩ | ⟨-, rfl⟩
          · exact absurd h8 (HBd.out d' p'.P)
          obtain ⟨g8, hg8⟩ : ∃ g8, w8.heap.size = g8 := ⟨_, rfl⟩
          obtain ⟨w9, hr9, B9, b9, s9⟩ := madeTo w8 to0 g8 hg8
          have HB9 := hide (HBb.out.trans ((b8.trans (b9.mono b8.size)).mono HBb.out.size))
          clear b8 b9 s9 B9 HP
          go_wp2_with fail
          clear hg8 hr9
          go_ret
          exact ⟨rfl, HB9.out⟩
        · go_simp
          refine hK.out _ _ trivial (fun hHeld => ?_)
          clear hK K
          refine wpAnyH_ready (rs := [9]) (by kernel_rfl) (by simp) ?_
          refine AllReadyH.cons rfl (fun K hK => ?_) ?_
          rotate_left
          · exact AllReadyH.nil
          go_simp
          refine hK.out _ _ trivial (fun hHeld => ?_)
          clear hK K
          refine wpAnyH_take (i := 14) (oi := { dst := some 102, op := Op.indexAddr 59 (Operand.tmp 88) (Operand.tmp 89), type := 0, pos := "law.go:243", after := #[{ on := 0, ground := Ground.data }, { on := 1, ground := Ground.data }, { on := 0, ground := Ground.phase }, { on := 1, ground := Ground.phase }, { on := 2, ground := Ground.textOnly Departure.lateStores }, { on := 3, ground := Ground.textOnly Departure.lateStores }, { on := 4, ground := Ground.textOnly Departure.lateStores }, { on := 5, ground := Ground.phase }, { on := 6, ground := Ground.phase }, { on := 7, ground := Ground.phase }, { on := 8, ground := Ground.phase }, { on := 9, ground := Ground.phase }, { on := 10, ground := Ground.textOnly Departure.lateStores }, { on := 11, ground := Ground.textOnly Departure.lateStores }, { on := 12, ground := Ground.textOnly Departure.lateStoresUnsure }, { on := 13, ground := Ground.phase }], guard := none }) (v := ?_) rfl (by kernel_rfl) (by kernel_rfl) (by kernel_rfl) (fun _ _ _ h => h) (Or.inl ⟨by rfl, ?_⟩) (by assumption) ?_
          rotate_left
          · (intro w hSw; (try dsimp only at hSw); go_simp); first | done | with_reducible rfl
          simp only [Act.put, List.setIfInBounds_toArray, List.set_cons_zero, List.set_cons_succ]
          refine wpAnyH_ready (rs := [15]) (by kernel_rfl) (by simp) ?_
          refine AllReadyH.cons rfl (fun K hK => ?_) ?_
          rotate_left
          · exact AllReadyH.nil
          go_simp
          refine hK.out _ _ trivial (fun hHeld => ?_)
          clear hK K
          refine wpAnyH_take (i := 16) (oi := { dst := some 103, op := Op.indexAddr 59 (Operand.tmp 90) (Operand.tmp 92), type := 0, pos := "law.go:243", after := #[{ on := 2, ground := Ground.data }, { on := 4, ground := Ground.data }, { on := 0, ground := Ground.phase }, { on := 1, ground := Ground.phase }, { on := 2, ground := Ground.phase }, { on := 3, ground := Ground.phase }, { on := 4, ground := Ground.phase }, { on := 5, ground := Ground.phase }, { on := 6, ground := Ground.phase }, { on := 7, ground := Ground.phase }, { on := 8, ground := Ground.phase }, { on := 9, ground := Ground.phase }, { on := 10, ground := Ground.phase }, { on := 11, ground := Ground.phase }, { on := 12, ground := Ground.phase }, { on := 13, ground := Ground.phase }, { on := 14, ground := Ground.phase }, { on := 15, ground := Ground.phase }], guard := none }) (v := ?_) rfl (by kernel_rfl) (by kernel_rfl) (by kernel_rfl) (fun _ _ _ h => h) (Or.inl ⟨by rfl, ?_⟩) (by assumption) ?_
          rotate_left
          · (intro w hSw; (try dsimp only at hSw); go_simp); first | done | with_reducible rfl
          simp only [Act.put, List.setIfInBounds_toArray, List.set_cons_zero, List.set_cons_succ]
          refine wpAnyH_ready (rs := [17]) (by kernel_rfl) (by simp) ?_
          refine AllReadyH.cons rfl (fun K hK => ?_) ?_
          rotate_left
          · exact AllReadyH.nil
          go_simp
          refine hK.out _ _ trivial (fun hHeld => ?_)
          clear hK K
          refine wpAnyH_done (by kernel_rfl) ?_ _
          clear hHeld
          have hst := (X2.bs ca).str
          have hob : ∀ y ∈ (L.set j y1).set j1 x1, 0 ≤ y ∧ y ≤ 255 := by
            refine mem_set (oc_of_ob (mem_set HBS.out (by rw [← HXY.out.2]; exact HBS.out j1) j)) (by rw [← HXY.out.1]; exact HBS.out j) j1
          have HP := hide (parse_any (strOfNums ((L.set j y1).set j1 x1)) wb2 (by rw [← strL_len, strL_of hob, List.length_set, List.length_set]; have := HN.out; omega))
          rw [strL_of hob] at HP
          have hbd : ∀ d' P', (L.set j y1).set j1 x1 ≠ textL d' P' := fun d' P' e => by
            refine hxy ?_
            have h1 := slip2 (c := d) (P := q.P) (c' := d') (P' := P') (k := j) (by rw [HL.out, HN.out.2.1]; exact HJ.out.1) (by rw [HL.out, HJ.out.2, HXY.out.1, HXY.out.2]; exact e.symm)
            rw [HL.out, HJ.out.2, HXY.out.1, HXY.out.2] at h1
            exact h1
          have HBd := hide hbd
          have HBb := hide B2
          clear X2 B2 hob hbd hxb hxy
          go_wp2_with fail
          clear hst hwb2
          refine HP.out.mono ?_
          rintro e w8 ⟨b8, h8⟩
          rcases h8 with ⟨d', p', -, h8, -, -⟩ | ⟨-, rfl⟩
          · exact absurd h8 (HBd.out d' p'.P)
          obtain ⟨g8, hg8⟩ : ∃ g8, w8.heap.size = g8 := ⟨_, rfl⟩
          obtain ⟨w9, hr9, B9, b9, s9⟩ := madeTo w8 to0 g8 hg8
          have HB9 := hide (HBb.out.trans ((b8.trans (b9.mono b8.size)).mono HBb.out.size))
          clear b8 b9 s9 B9 HP
          go_wp2_with fail
          clear hg8 hr9
          go_ret
          exact ⟨rfl, HB9.out⟩
end Go.Proofs.Ytnghfnhpjdafmaa
