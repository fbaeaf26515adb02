/- Print of the reference. -/
import Derived.Test.YtchaeokeokpejaaDoorJLn
import Derived.Lib.SlBytesConst
import Derived.ArgAppend
namespace Go.Proofs.YtchaeokeokpejaaDoor
open Go.RowKit T Y
variable {w w' w2 : World} {g gh : Nat}
attribute [local go_sem ↓] ldO_eq stO_eq
def stI (p v : Value) : Sem Unit := Instr.storeAt 36 p v
theorem stI_eq (p v : Value) : Instr.storeAt 36 p v = stI p v := rfl
attribute [local go_sem ↓] stI_eq
theorem sizeI : (Tryd.prog.info? 36).map (·.size) = some 6 := by kernel_rfl
theorem run_stI {c c' : Array Value} (A : w.heap[g]? = some (.cells c 36 (0, 0))) (hc : c.size = 6) (hc' : c'.size = 6) (h1 : ∀ v ∈ c'.toList, v.oneCell' = true) :
    (stI (.pointer (some ⟨g, 0, none⟩)) (.agg c')).run Tryd.prog w = .ok () (w.setRow g c') := by
  unfold stI
  have h := run_storeCells_from (P := Tryd.prog) g 36 c'.toList 0 c w A (by simp [hc, hc']) h1
  cases hq : Tryd.prog.info? 36 with
  | none => have := sizeI; simp [hq] at this
  | some x =>
    have hs : x.size = 6 := by have := sizeI; simpa [hq] using this
    have e0 : c.toList.drop 6 = [] := List.drop_eq_nil_of_le (by simp [hc])
    simp only [Instr.storeAt, Instr.sureAddr, Sem.run_bind, Sem.run_pure, Result.andThen, storeVar, sizeOf, typeInfo, Value.cells]
    simp at h
    simp [h, hq, hs, hc']
def nms (l : List Int) : Array Value := (l.map fun x => Value.int .i64 x).toArray
theorem madeI (w : World) (l : List Int) (hl : l.length = 6) (c : Array Value) (hc : c.size = 6) (g : Nat) (hg : w.heap.size = g) : ∃ w' : World, (stI (.pointer (some ⟨g, 0, none⟩)) (.agg (nms l))).run Tryd.prog (w.alloc (.cells c 36)) = .ok () w' ∧ w'.heap[g]? = some (.cells (nms l) 36 (0, 0)) ∧ Below w.heap.size w w' := by
  subst hg
  have hn : (w.alloc (.cells c 36)).heap[w.heap.size]? = some (.cells c 36 (0, 0)) := heap_alloc_new w _
  refine ⟨_, run_stI hn hc (by simp [nms, hl]) ?_, setRow_heap _ _ _ _ _ _ hn, below_setRow (below_new w _) (Nat.le_refl _)⟩
  intro v hv
  simp [nms] at hv
  obtain ⟨a, -, rfl⟩ := hv
  rfl
/-- a row of bytes of one's own, or one full that bears a mark -/
structure GR (w : World) (ao : Option Addr) (n c : Nat) (Z : List Int) : Prop where
  len : Z.length = n
  is : BR w ao n c Z ∨ (c = n ∧ ∃ q cs fz, ao = some ⟨q, 0, none⟩ ∧ w.heap[q]? = some (.cells cs 5 fz) ∧ cs.toList = bcs Z)
theorem GR.of {ao : Option Addr} {n c : Nat} {Z : List Int} (h : BR w ao n c Z) : GR w ao n c Z := ⟨h.len, .inl h⟩
theorem GR.keep {ao : Option Addr} {n c : Nat} {Z : List Int} (h : GR w ao n c Z) (hb : Below w.heap.size w w') : GR w' ao n c Z := by
  refine ⟨h.len, ?_⟩
  rcases h.is with h1 | ⟨h1, q, cs, fz, h2, h3, h4⟩
  · exact .inl (BR_below h1 hb)
  · exact .inr ⟨h1, q, cs, fz, h2, (hb.block q (Array.getElem?_eq_some_iff.1 h3).1).trans h3, h4⟩
theorem GR.app1 {ao : Option Addr} {n cap : Nat} {Z : List Int} (h : GR w ao n cap Z) (x : Int) (hb : n + 1 ≤ 140737488355328)
    {ops : Array Oper} {rest : List Oper} {o : Oper} {a : Act} {Q : Exit → Act → World → Prop} (hgd : o.guard = none) (s y : Operand) (ho : o.op = .call { callee := .builtin .append, args := #[s, y], argTypes := #[35, 35] })
    (hs : a.eval s = .slice ao n cap) (hy : a.eval y = .slice (some ⟨w.heap.size, 0, none⟩) 1 1)
    (hK : ∀ (bo : Option Addr) (cap2 : Nat) (w2 : World), BR w2 bo (n + 1) cap2 (Z ++ [x]) → Ap w w2 ao bo → wpList Tryd.prog ops Q rest (a.put o.dst (.slice bo (n + 1) cap2)) w2) :
    wpList Tryd.prog ops Q (o :: rest) a (w.alloc (.cells #[.int .u8 x] 5)) := by
  rcases h.is with h1 | ⟨rfl, q, cs, fz, rfl, h3, h4⟩
  · exact h1.app1 x hb hgd s y ho hs hy hK
  · obtain ⟨i0, hi, hz0, hz1, hz2⟩ := info_parts infoB
    have hq : q < w.heap.size := (Array.getElem?_eq_some_iff.1 h3).1
    refine wpList_append_arg (P := Tryd.prog) (w.alloc (.cells #[.int .u8 x] 5)) hgd s y 35 ho 5 i0 (.int .u8 0) 1 1 Tryd.underlying35 hi hz0 hz1 hz2 rfl (by decide) q 0 cap cap (bcs Z) hs (by rw [bcs_length, h.len, Nat.mul_one]) (fun j u hj => ?_) ⟨w.heap.size, 0, none⟩ 1 1 (bcs [x]) hy rfl (fun j u hj => ?_) (bcs_one [x]) (fun hh => by omega) (by unfold maxLen; omega) (by omega) (fun hh => by omega) (fun _ v' w2 hown hgrow => ?_)
    · have hk : (w.alloc (.cells #[.int .u8 x] 5)).heap[q]? = some (.cells cs 5 fz) := (Below.heap_alloc w _ q hq).trans h3
      rw [← h4] at hj
      rw [Nat.zero_add]
      simpa [World.cell?, hk] using hj
    · rw [Addr.add_lit, Nat.zero_add, World.cell?_alloc_new]
      simpa [bcs] using hj
    · rw [← bcs_append] at hown
      have hown0 : w2.ownsRow 0 5 1 v' (cap + 1) (bcs (Z ++ [x])) := ⟨hown.1, hown.2.imp id (fun ⟨g, c2, cur, hv, _, r⟩ => ⟨g, c2, cur, hv, Nat.zero_le _, r⟩)⟩
      obtain ⟨bo, c2, rfl, hB⟩ := BR.out hown0
      refine hK bo c2 w2 hB ((Ap.new w _ _).trans ⟨⟨hgrow.os, hgrow.tape, hgrow.output, hgrow.size, fun k hk _ => hgrow.block k hk (by simp)⟩, ?_⟩)
      rcases hown.2 with ⟨h5, h6⟩ | ⟨g, c3, cur, hv, hg, r⟩
      · omega
      · simp only [Value.slice.injEq, true_and] at hv
        obtain ⟨rfl, rfl⟩ := hv
        exact .inr ⟨g, rfl, hg⟩
/-- the row that is printed into -/
structure Rw (w v : World) (g gh : Nat) (s : Sc) (hs : List Int) (bo : Option Addr) (m c : Nat) (Z : List Int) : Prop where
  r : GR v bo m c Z
  x : SBox v g s
  y : v.heap[gh]? = some (.cells (nms hs) 36 (0, 0))
  b : Below w.heap.size w v
  lk : ∀ j, blk bo = some j → w.heap.size ≤ j
  n1 : blk bo ≠ some g
  n2 : blk bo ≠ some gh
theorem Rw.ylt {s : Sc} {hs : List Int} {bo : Option Addr} {m c : Nat} {Z : List Int} {v : World} (h : Rw w v g gh s hs bo m c Z) : gh < v.heap.size := (Array.getElem?_eq_some_iff.1 h.y).1
theorem Rw.app {s : Sc} {hs : List Int} {bo b2 : Option Addr} {m c m2 c2 : Nat} {Z Z2 : List Int} {v : World} (h : Rw w v g gh s hs bo m c Z) (R : BR w2 b2 m2 c2 Z2) (A : Ap v w2 bo b2) : Rw w w2 g gh s hs b2 m2 c2 Z2 := by
  have far : ∀ q, q < v.heap.size → blk bo ≠ some q → blk b2 ≠ some q := by
    intro q hq hne e
    rcases A.lies with e2 | ⟨j, e2, hj⟩
    · exact hne (e2 ▸ e)
    · rw [e2] at e
      have := Option.some.inj e
      omega
  exact ⟨GR.of R, (A.grown.block g h.x.lt (fun e => h.n1 e.symm)).trans h.x, (A.grown.block gh h.ylt (fun e => h.n2 e.symm)).trans h.y, below_ap h.b h.b.size A h.lk, fresh_ap A h.b.size h.lk, far g h.x.lt h.n1, far gh h.ylt h.n2⟩
theorem Rw.cell {s : Sc} {hs : List Int} {bo : Option Addr} {m c : Nat} {Z : List Int} {v : World} (h : Rw w v g gh s hs bo m c Z) (k : Nat) (hk : k < hs.length) : v.cell? ⟨gh, k, none⟩ = some (.int .i64 (hs.getD k 0)) := by
  have := h.y
  simp [World.cell?, this, nms, List.getD, hk]
theorem take_int (L : List Int) (k : Nat) (h : k < L.length) : L.take (k + 1) = L.take k ++ [L.getD k 0] := by
  rw [List.take_succ_eq_append_getElem h]; simp [List.getD, h]
theorem wtO_take : ∀ (L : List Sp) (k : Nat), wtO (L.take k) ≤ wtO L
  | [], k => by simp
  | o :: L, 0 => by simp [wtO]
  | o :: L, k + 1 => by
    have := wtO_take L k
    rw [List.take_succ_cons, wtO_cons, wtO_cons]
    omega
def stB : Array Value := #[.int .u8 115, .int .u8 116, .int .u8 111, .int .u8 114, .int .u8 101]
theorem stB_row (w : World) : GR (w.alloc (.cells stB 5 (5, 6))) (some ⟨w.heap.size, 0, none⟩) 5 5 (nI storeL) :=
  ⟨rfl, .inr ⟨rfl, w.heap.size, stB, (5, 6), rfl, heap_alloc_new w _, rfl⟩⟩
set_option maxRecDepth 100000 in
set_option maxHeartbeats 3200000 in
theorem rprint_any (a b c d e f : Int) (so : Option Addr) (n sc : Nat) (L : List Sp) (w : World) (h : ∀ n, n ∈ [a, b, c, d, e, f] → R64 n) (hS : OSrc w so n sc L) (hL : ∀ o, o ∈ L → Ok o) (hw : wtO L ≤ 40000000000000) :
    Calls Tryd.prog 5 #[.agg #[.int .i64 a, .int .i64 b, .int .i64 c, .int .i64 d, .int .i64 e, .int .i64 f, .slice so n sc]] w fun r w' => r = .returned (.string (bs (printT [a, b, c, d, e, f] L))) ∧ Below w.heap.size w w' := by
  obtain ⟨w1, hw1⟩ : ∃ w1, w.alloc (.cells #[.int .i64 a, .int .i64 b, .int .i64 c, .int .i64 d, .int .i64 e, .int .i64 f, .slice so n sc] 26) = w1 := ⟨_, rfl⟩
  have hx : SBox w1 w.heap.size ⟨a, b, c, d, e, f, so, n, sc⟩ := by rw [← hw1]; exact SBox_new w ⟨a, b, c, d, e, f, so, n, sc⟩
  have hb1 : Below w.heap.size w w1 := by rw [← hw1]; exact below_new _ _
  have hcb := Lib.run_convert_bytes_const (P := Tryd.prog) w1 35 5 #[.int .u8 115, .int .u8 116, .int .u8 111, .int .u8 114, .int .u8 101] 5 5 Tryd.underlying35 Tryd.underlying5
  obtain ⟨w2, hw2⟩ : ∃ w2, w1.alloc (.cells #[.int .u8 115, .int .u8 116, .int .u8 111, .int .u8 114, .int .u8 101] 5 (5, 6)) = w2 := ⟨_, rfl⟩
  have hc5 : (#[.int .u8 115, .int .u8 116, .int .u8 111, .int .u8 114, .int .u8 101] : Array Value).size = 5 := rfl
  rw [hc5] at hcb
  simp only [Nat.reduceAdd] at hcb
  rw [hw2] at hcb
  clear hc5
  have hb2 : Below w1.heap.size w1 w2 := by rw [← hw2]; exact below_new _ _
  have hr2 : GR w2 (some ⟨w1.heap.size, 0, none⟩) 5 5 (nI storeL) := by rw [← hw2]; exact stB_row w1
  have hz2 : w2.heap.size = w1.heap.size + 1 := by rw [← hw2]; simp
  obtain ⟨w3, hst, hy, hb3⟩ := madeI w2 [a, b, c, d, e, f] rfl #[.int .i64 0, .int .i64 0, .int .i64 0, .int .i64 0, .int .i64 0, .int .i64 0] rfl w2.heap.size rfl
  have hst' : (stI (.pointer (some ⟨w2.heap.size, 0, none⟩)) (.agg #[.int .i64 a, .int .i64 b, .int .i64 c, .int .i64 d, .int .i64 e, .int .i64 f])).run Tryd.prog (w2.alloc (.cells #[.int .i64 0, .int .i64 0, .int .i64 0, .int .i64 0, .int .i64 0, .int .i64 0] 36)) = .ok () w3 := hst
  have hx2 := hx.below hb2
  have c0 := hx2.c0
  have c1 := hx2.c1
  have c2 := hx2.c2
  have c3 := hx2.c3
  have c4 := hx2.c4
  have c5 := hx2.c5
  simp only at c0 c1 c2 c3 c4 c5
  have HP0 : Hid (Rw w w3 w.heap.size w2.heap.size ⟨a, b, c, d, e, f, so, n, sc⟩ [a, b, c, d, e, f] (some ⟨w1.heap.size, 0, none⟩) 5 5 (nI (storeL ++ numsT ([a, b, c, d, e, f].take 0)))) := by
    show Rw _ _ _ _ _ _ _ _ _ _
    have hb12 := hb1.trans (hb2.mono hb1.size)
    refine ⟨?_, hx2.below hb3, hy, hb12.trans (hb3.mono hb12.size), fun j hj => ?_, fun hj => ?_, fun hj => ?_⟩
    · have := hr2.keep hb3
      simpa [numsT] using this
    · have := Option.some.inj hj; have := hb1.size; simp only at *; omega
    · have := Option.some.inj hj; have := hx.lt; simp only at *; omega
    · have := Option.some.inj hj; simp only at *; omega
  obtain ⟨hs, hhs⟩ : ∃ hs, [a, b, c, d, e, f] = hs := ⟨_, rfl⟩
  rw [hhs] at HP0 h ⊢
  have hh6 : hs.length = 6 := by rw [← hhs]; rfl
  have HR := hide h
  have HNl := hide (numsT_len h)
  have HS := hide hS
  have HL := hide hL
  have hlen := hS.len
  have hwl := wtO_len L
  clear hst hy hb3 hb2 hb1 hx hr2 hz2 hx2 hS hL h hhs
  go_enter Tryd.func5, Tryd.ntmps5
  go_wp2_with fail
  clear hcb c0 c1 c2 c3 c4 c5 hst' hw1 hw2
  go_loopw [3, 5] (fun t v wr => ∃ (k m cc : Nat) (bo : Option Addr), k ≤ 6 ∧ v = .int .i64 (k : Int) ∧ t = .slice bo m cc ∧ Hid (Rw w wr w.heap.size w2.heap.size ⟨a, b, c, d, e, f, so, n, sc⟩ hs bo m cc (nI (storeL ++ numsT (hs.take k))))) (fun _ v _ => 6 - (intOf v).toNat)
  case atStart => exact ⟨0, 5, 5, _, by omega, rfl, rfl, HP0⟩
  case round =>
    clear HP0
    obtain ⟨k, m, cc, bo, hk, rfl, rfl, HP⟩ := hrel
    have hm : m ≤ 200 := by
      have h1 := HP.out.r.len
      have h2 := numsT_len (l := hs.take k) (fun x hx => HR.out x (List.mem_of_mem_take hx))
      rw [nI_len, List.length_append] at h1
      rw [List.length_take] at h2
      have h3 : storeL.length = 5 := rfl
      omega
    by_cases hlt : k < 6
    · obtain ⟨x, hx⟩ : ∃ x, hs.getD k 0 = x := ⟨_, rfl⟩
      have hr : R64 x := HR.out x (by rw [← hx]; simp [List.getD, show k < hs.length by omega])
      have HE : Hid (numsT (hs.take (k + 1)) = numsT (hs.take k) ++ ([32] ++ num x)) := by show _ = _; rw [take_int hs k (by omega), numsT_snoc, hx]
      go_wp2_with (first | (go_at_call 9; have hB := HP3; refine (number_any _ _ _ _ x hr.lo hr.hi _ HR3.out (by omega)).mono ?_; rintro r w4 ⟨b4, m4, q4, rfl, R4, A4⟩; have HP4 := hide (HP3.out.app R4 A4); clear R4 A4) | (at_builtin; refine HP.out.r.app1 32 (by omega) rfl (.tmp 32) (.tmp 33) rfl rfl rfl ?_; intro b3 q3 w3 R3 A3; have HP3 := hide (HP.out.app R3 A3); have HR3 := hide R3; have ck := HP3.out.cell k (by omega); rw [hx] at ck; clear R3 A3))
      go_roundw
      case rel => exact ⟨k + 1, m4, q4, b4, by omega, by go_num, rfl, by have e := HP4.out; show Rw _ _ _ _ _ _ _ _ _ _; rw [HE.out]; simpa [nI_app, nI] using e⟩
      case measure => simp [intOf]; omega
    · have HF : Hid (hs.take k = hs) := List.take_of_length_le (by omega)
      rw [HF.out] at HP
      obtain ⟨H, hH⟩ : ∃ H, storeL ++ numsT hs = H := ⟨_, rfl⟩
      have HPT : Hid (printT hs L = H ++ [10] ++ opsT L) := by show _ = _; unfold printT; rw [hH]
      have hHl : H.length ≤ 200 := by rw [← hH, List.length_append]; have := HNl.out; have h3 : storeL.length = 5 := rfl; omega
      rw [hH] at HP
      clear hH
      go_wp2_with (at_builtin; refine HP.out.r.app1 10 (by omega) rfl (.tmp 40) (.tmp 41) rfl rfl rfl ?_; intro b3 q3 w3 R3 A3; have HP3 := hide (HP.out.app R3 A3); have HR3 := hide R3; clear R3 A3)
      go_loopw [3, 6] (fun t v wr => ∃ (k m cc : Nat) (bo : Option Addr), k ≤ n ∧ v = .int .i64 (k : Int) ∧ t = .slice bo m cc ∧ Hid (BR wr bo m cc (nI (H ++ [10] ++ opsT (L.take k)))) ∧ Hid (Rw w wr w.heap.size w2.heap.size ⟨a, b, c, d, e, f, so, n, sc⟩ hs bo m cc (nI (H ++ [10] ++ opsT (L.take k))))) (fun _ v _ => n - (intOf v).toNat)
      case atStart => exact ⟨0, _, q3, b3, by omega, rfl, rfl, by have e := HR3.out; show BR _ _ _ _ _; simpa [nI_app, nI, opsT] using e, by have e := HP3.out; show Rw _ _ _ _ _ _ _ _ _ _; simpa [nI_app, nI, opsT] using e⟩
      case round =>
        clear HP3 HP HR3
        obtain ⟨k, m, cc, bo, hk, rfl, rfl, HBR, HP⟩ := hrel
        have hm : m ≤ 201 + wtO L := by
          have h1 := HP.out.r.len
          have h2 := opsT_len (L := L.take k) (fun x hx => HL.out x (List.mem_of_mem_take hx))
          have h3 := wtO_take L k
          have h10 : ([10] : List UInt8).length = 1 := rfl
          rw [nI_len, List.length_append, List.length_append, h10] at h1
          omega
        have c6 := HP.out.x.c6
        simp only at c6
        by_cases hkn : k < n
        · obtain ⟨ad, rfl, x⟩ := (HS.out.below HP.out.b).at k hkn
          have HE := hide (take_op L k (by omega))
          obtain ⟨y, hy⟩ : ∃ y, L.getD k sp0 = y := ⟨_, rfl⟩
          have hok : Ok y := HL.out y (by rw [← hy]; simp [List.getD, show k < L.length by omega])
          rw [hy] at x HE
          have x0 : (ldO (.pointer (some (ad.add (k * 7))))).run Tryd.prog wr = .ok (.agg (OC y)) wr := run_laO x
          have HC := hide (line_any bo m cc _ y wr HBR.out (by omega) hok)
          have Hol := hide hok.opT
          have hsk := hok.sk
          clear x hok hy
          have Hkn := hide hkn
          go_wp2_with (first | (go_at_call 10; refine HC.out.mono ?_; rintro r w4 ⟨b4, m4, q4, rfl, R4, A4⟩; have hm4 : m4 ≤ 100000000000000 := (by have h1 := R4.len; have h2 := HP.out.r.len; have h3 := Hol.out; simp only [List.length_append, nI_len] at h1 h2; omega); have HP4 := hide (HP.out.app R4 A4); clear R4 A4) | (at_builtin; refine HP4.out.r.app1 10 (by omega) rfl (.tmp 57) (.tmp 58) rfl rfl rfl ?_; intro b5 q5 w5 R5 A5; have HP5 := hide (HP4.out.app R5 A5); have HR5 := hide R5; clear R5 A5))
          go_roundw
          case rel => exact ⟨k + 1, m4 + 1, q5, b5, by have := Hkn.out; omega, by go_num, rfl, by have e := HR5.out; show BR _ _ _ _ _; rw [HE.out, opsT_snoc]; simpa [nI_app, nI] using e, by have e := HP5.out; show Rw _ _ _ _ _ _ _ _ _ _; rw [HE.out, opsT_snoc]; simpa [nI_app, nI] using e⟩
          case measure => have := Hkn.out; simp [intOf]; omega
        · have HF : Hid (L.take k = L) := List.take_of_length_le (by omega)
          rw [HF.out, ← HPT.out] at HBR
          have hcv := run_str HBR.out
          rw [str_nI] at hcv
          have HBf := hide HP.out.b
          go_wp2_with fail
          go_ret
          exact ⟨rfl, HBf.out⟩
end Go.Proofs.YtchaeokeokpejaaDoor
