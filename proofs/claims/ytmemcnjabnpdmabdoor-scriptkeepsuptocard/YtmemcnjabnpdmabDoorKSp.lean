/- ScriptSpread: the law. -/
import Derived.Test.YtmemcnjabnpdmabDoorKPp
import Derived.Test.YtmemcnjabnpdmabDoorKPe
import Derived.Test.YtmemcnjabnpdmabDoorKAw
import Derived.Lib.AppendStr
import Derived.OrdersHeld
namespace Go.Proofs.YtmemcnjabnpdmabDoor
open Go.RowKit T Y V
variable {w w' w2 : World} {g : Nat}

/-! ### a text's bytes appended -/
/-- where a text's bytes go: to the row's block, or to a new one -/
theorem str_at (w : World) (ty : TypeId) (v : Value) (n : Nat) (xs : List Value) (hown : w.ownsRow 0 5 1 v n xs) (s : ByteArray) (hb : n + s.size ≤ 140737488355328) :
    ∃ v' w', (Builtin.append_ #[27, 9] ty #[v, .string s]).run Tryd.prog w = .ok v' w' ∧ (v'.ownBlock = v.ownBlock ∨ v'.ownBlock = some w.heap.size) := by
  obtain ⟨i0, hi, hz0, hz1, hz2⟩ := info_parts infoB
  rcases hown.2 with ⟨rfl, rfl⟩ | ⟨g, cap, cur, rfl, hbg, hg, hnc, hcm, hcs, htake⟩
  · by_cases hm : s.size = 0
    · obtain ⟨v', w', hr, -, -, h4⟩ := Lib.run_append_own_string (P := Tryd.prog) w 0 27 9 ty 5 i0 Tryd.underlying27 Tryd.underlying9 hi hz0 hz1 hz2 _ 0 xs hown s (by unfold maxLen; omega) hb (Nat.zero_le _)
      have e := h4.2 ⟨rfl, hm⟩
      subst e
      exact ⟨_, _, hr, Or.inl rfl⟩
    · have hr := run_append_nil_string (P := Tryd.prog) w 27 9 ty 5 i0 (.int .u8 0) Tryd.underlying27 Tryd.underlying9 hi hz0 s (by omega) (by omega) (by rw [hz2]; omega)
      exact ⟨_, _, hr, Or.inr rfl⟩
  · by_cases hroom : n + s.size ≤ cap
    · have hr := Lib.run_append_room_string (P := Tryd.prog) w 27 9 ty 5 i0 Tryd.underlying27 Tryd.underlying9 hi hz1 g n cap cur hg s hroom (by omega)
      exact ⟨_, _, hr, Or.inl rfl⟩
    · have holds : ∀ j u, xs[j]? = some u → w.cell? ((⟨g, 0, none⟩ : Addr).add j) = some u := hown.cells (g := g) rfl
      have hxl : xs.length = n := by simpa using hown.1
      have hr := Lib.run_append_grow_string (P := Tryd.prog) w 27 9 ty 5 i0 (.int .u8 0) Tryd.underlying27 Tryd.underlying9 hi hz0 ⟨g, 0, none⟩ n cap xs (by rw [hz1]; simpa using hxl) holds s (by omega) (by omega) (by rw [hz2]; exact growslice_fits (by omega) (by omega))
      exact ⟨_, _, hr, Or.inr rfl⟩
theorem str_cells (s : ByteArray) : Lib.strCells s = bcs (nI s.data.toList) := by simp [Lib.strCells, bcs, nI]
/-- an append of a text's bytes -/
theorem Y.BR.appS {ao : Option Addr} {n cap : Nat} {Z : List Int} (h : BR w ao n cap Z) (t : ByteArray) (hb : n + t.size ≤ 140737488355328)
    {ops : Array Oper} {rest : List Oper} {o : Oper} {a : Act} {Q : Exit → Act → World → Prop} (hgd : o.guard = none) (s y : Operand) (ho : o.op = .call { callee := .builtin .append, args := #[s, y], argTypes := #[27, 9] })
    (hs : a.eval s = .slice ao n cap) (hy : a.eval y = .string t)
    (hK : ∀ (bo : Option Addr) (cap2 : Nat) (w2 : World), BR w2 bo (n + t.size) cap2 (Z ++ nI t.data.toList) → Ap w w2 ao bo → wpList Tryd.prog ops Q rest (a.put o.dst (.slice bo (n + t.size) cap2)) w2) :
    wpList Tryd.prog ops Q (o :: rest) a w := by
  obtain ⟨i0, hi, hz0, hz1, hz2⟩ := info_parts infoB
  refine wpList_plain hgd fun K hK2 => ?_
  obtain ⟨v', w2, hr, h2, h3, h4⟩ := Lib.run_append_own_string (P := Tryd.prog) w 0 27 9 o.type 5 i0 Tryd.underlying27 Tryd.underlying9 hi hz0 hz1 hz2 _ n _ h t (by unfold maxLen; omega) hb (Nat.zero_le _)
  obtain ⟨v3, w3, hr3, hat⟩ := str_at w o.type _ n _ h t hb
  obtain ⟨rfl, rfl⟩ : v3 = v' ∧ w3 = w2 := by
    rw [hr] at hr3
    injection hr3 with e1 e2
    exact ⟨e1.symm, e2.symm⟩
  rw [str_cells, ← bcs_append] at h2
  obtain ⟨bo, c2, rfl, hB⟩ := BR.out h2
  rw [ownBlock_blk] at h3
  rw [ownBlock_blk, ownBlock_blk] at hat
  unfold Oper.wp execOp
  simp only [ho, resolve, invoke, builtin, Sem.run_bind, Sem.run_pure, Result.andThen_ok, List.map_toArray, List.map_cons, List.map_nil, hs, hy, hr]
  refine hK2 _ _ (hK bo c2 w3 hB ⟨h3, ?_⟩)
  rcases hat with e | e
  · exact Or.inl e
  · exact Or.inr ⟨_, e, Nat.le_refl _⟩
/-! ### local arrays of six texts -/
def stF (p v : Value) : Sem Unit := Instr.storeAt 30 p v
theorem stF_eq (p v : Value) : Instr.storeAt 30 p v = stF p v := rfl
theorem sizeF : (Tryd.prog.info? 30).map (·.size) = some 6 := by kernel_rfl
def txs (l : List (List UInt8)) : Array Value := (l.map fun x => Value.string (bs x)).toArray
theorem madeF (w : World) (l : List (List UInt8)) (hl : l.length = 6) : ∃ w' : World, (stF (.pointer (some ⟨w.heap.size, 0, none⟩)) (.agg (txs l))).run Tryd.prog (w.alloc (.cells #[.string ⟨#[]⟩, .string ⟨#[]⟩, .string ⟨#[]⟩, .string ⟨#[]⟩, .string ⟨#[]⟩, .string ⟨#[]⟩] 30)) = .ok () w' ∧ w'.heap[w.heap.size]? = some (.cells (txs l) 30 (0, 0)) ∧ Below w.heap.size w w' ∧ w'.heap.size = w.heap.size + 1 := by
  obtain ⟨c, hc⟩ : ∃ c : Array Value, #[.string ⟨#[]⟩, .string ⟨#[]⟩, .string ⟨#[]⟩, .string ⟨#[]⟩, .string ⟨#[]⟩, .string ⟨#[]⟩] = c := ⟨_, rfl⟩
  have hcs : c.size = 6 := by rw [← hc]; rfl
  rw [hc]
  clear hc
  have hn : (w.alloc (.cells c 30)).heap[w.heap.size]? = some (.cells c 30 (0, 0)) := heap_alloc_new w _
  have hts : (txs l).size = 6 := by simp [txs, hl]
  have h1 : ∀ v ∈ (txs l).toList, v.oneCell' = true := by
    intro v hv
    simp [txs] at hv
    obtain ⟨a, -, rfl⟩ := hv
    rfl
  have h := run_storeCells_from (P := Tryd.prog) w.heap.size 30 (txs l).toList 0 c _ hn (by simp [hcs, hts]) h1
  refine ⟨_, ?_, setRow_heap _ _ _ _ _ _ hn, below_setRow (below_new w _) (Nat.le_refl _), by simp [World.setRow]⟩
  unfold stF
  cases hq : Tryd.prog.info? 30 with
  | none => have := sizeF; simp [hq] at this
  | some x =>
    have hs : x.size = 6 := by have := sizeF; simpa [hq] using this
    have e0 : c.toList.drop 6 = [] := List.drop_eq_nil_of_le (by simp [hcs])
    simp only [Instr.storeAt, Instr.sureAddr, Sem.run_bind, Sem.run_pure, Result.andThen, storeVar, sizeOf, typeInfo, Value.cells]
    simp at h
    simp [h, hq, hs, hts]
theorem cellF {l : List (List UInt8)} {T : TypeId} (h : w.heap[g]? = some (.cells (txs l) T (0, 0))) (i : Nat) (hi : i < l.length) : w.cell? ⟨g, i, none⟩ = some (.string (bs (l.getD i []))) := by
  simp [World.cell?, h, txs, List.getD, hi]
attribute [local go_sem ↓] stF_eq ldO_eq stO_eq ldS_eq stS_eq ldHd_eq stHd_eq
/-- bytes that are read -/
structure GSrc (w : World) (ao : Option Addr) (m : Nat) (Z : List Int) : Prop where
  len : Z.length = m
  nil : ao = none → m = 0
  cell : ∀ ad, ao = some ad → ∀ t, t < m → w.cell? (ad.add t) = some (.int .u8 (Z.getD t 0))
  rng : ∀ t, 0 ≤ Z.getD t 0 ∧ Z.getD t 0 ≤ 255
theorem GSrc.below {ao : Option Addr} {m : Nat} {Z : List Int} (h : GSrc w ao m Z) (hb : Below w.heap.size w w') : GSrc w' ao m Z := ⟨h.len, h.nil, fun ad ha t ht => by
  have hc := h.cell ad ha t ht
  rw [hb.cell (World.block_lt_of_cell? _ _ hc)]
  exact hc, h.rng⟩
theorem GSrc.at {ao : Option Addr} {m : Nat} {Z : List Int} (h : GSrc w ao m Z) (k : Nat) (hk : k < m) : ∃ ad, ao = some ad ∧ w.cell? (ad.add k) = some (.int .u8 (Z.getD k 0)) := by
  cases ao with
  | none => have := h.nil rfl; omega
  | some ad => exact ⟨ad, rfl, h.cell ad rfl k hk⟩
def kOf (Z : List Int) (p : Nat) : Nat := if Z = [] then 0 else (Z.getD (p % Z.length) 0).toNat % 6
theorem kOf_lt (Z : List Int) (p : Nat) : kOf Z p < 6 := by
  unfold kOf
  split
  · omega
  · exact Nat.mod_lt _ (by omega)
/-- while the text is spread -/
structure Sd (w v : World) (g2 g6 g7 n0 : Nat) (S : Sc) (bo : Option Addr) (m cc : Nat) (B : List UInt8) : Prop where
  r : BR v bo m cc (nI B)
  x : SBox v g2 S
  f6 : v.heap[g6]? = some (.cells (txs fillL) 30 (0, 0))
  f7 : v.heap[g7]? = some (.cells (txs rowsL) 30 (0, 0))
  b : Below w.heap.size w v
  h2 : g2 < n0
  h6 : g6 < n0
  h7 : g7 < n0
  hw : w.heap.size ≤ n0
  hn : n0 ≤ v.heap.size
  k : ∀ j, blk bo = some j → n0 ≤ j
theorem Sd.hr {g2 g6 g7 n0 : Nat} {S : Sc} {bo : Option Addr} {m cc : Nat} {B : List UInt8} {v : World} (h : Sd w v g2 g6 g7 n0 S bo m cc B) : Hid (BR v bo m cc (nI B)) := h.r
theorem Sd.fc {g2 g6 g7 n0 : Nat} {S : Sc} {bo : Option Addr} {m cc : Nat} {B : List UInt8} {v : World} (h : Sd w v g2 g6 g7 n0 S bo m cc B) (k : Nat) (hk : k < 6) : v.cell? ⟨g6, k, none⟩ = some (.string (bs (fil k))) := cellF h.f6 k hk
theorem Sd.rc {g2 g6 g7 n0 : Nat} {S : Sc} {bo : Option Addr} {m cc : Nat} {B : List UInt8} {v : World} (h : Sd w v g2 g6 g7 n0 S bo m cc B) (k : Nat) (hk : k < 6) : v.cell? ⟨g7, k, none⟩ = some (.string (bs (row k))) := cellF h.f7 k hk
theorem Sd.app {g2 g6 g7 n0 : Nat} {S : Sc} {bo : Option Addr} {m cc : Nat} {B : List UInt8} {v v2 : World} {b2 : Option Addr} {m2 c2 : Nat} {F : List UInt8} {X : List Int} (h : Sd w v g2 g6 g7 n0 S bo m cc B) (R : BR v2 b2 m2 c2 (nI B ++ X)) (A : Ap v v2 bo b2) (hX : X = nI F) : Sd w v2 g2 g6 g7 n0 S b2 m2 c2 (B ++ F) := by
  have h2 := h.h2
  have h6 := h.h6
  have h7 := h.h7
  have hn := h.hn
  refine ⟨by rw [nI_app, ← hX]; exact R, (A.grown.block g2 (by omega) (fun e => by have := h.k g2 e.symm; omega)).trans h.x, (A.grown.block g6 (by omega) (fun e => by have := h.k g6 e.symm; omega)).trans h.f6, (A.grown.block g7 (by omega) (fun e => by have := h.k g7 e.symm; omega)).trans h.f7, h.b.trans ⟨A.grown.os, A.grown.tape, A.grown.output, A.grown.size, fun j hj => A.grown.block j (Nat.lt_of_lt_of_le hj h.b.size) (fun e => by have := h.k j e.symm; have := h.hw; omega)⟩, h.h2, h.h6, h.h7, h.hw, Nat.le_trans h.hn A.grown.size, fun j hj => ?_⟩
  rcases A.lies with e | ⟨i, e, hi⟩
  · exact h.k j (e ▸ hj)
  · rw [e] at hj
    have := Option.some.inj hj
    omega
theorem PaA.yes {h : List Int} {L : List Sp} {e : Ending} (A : PaA w w' (.ok h L) e) : ∃ so n c, e = .returned (.tuple #[.agg (SC (scOf (hdL h) so n c)), .int .i64 0, .int .i64 0]) ∧ OR w' so n c L ∧ ∀ k, blk so = some k → w.heap.size ≤ k := A
theorem printT_len {h : List Int} {L : List Sp} (hh : ∀ n, n ∈ h → R64 n) (hl : h.length = 6) (hL : ∀ o, o ∈ L → Ok o) : (printT h L).length ≤ 200 + wtO L := by
  have h1 := numsT_len hh
  have h2 := opsT_len hL
  unfold printT
  rw [List.length_append, List.length_append, List.length_append]
  have h3 : storeL.length = 5 := rfl
  have h4 : ([10] : List UInt8).length = 1 := rfl
  omega
set_option maxRecDepth 100000 in
set_option maxHeartbeats 6400000 in
theorem spread_any (a b c d e f : Int) (so : Option Addr) (n sc : Nat) (L : List Sp) (go : Option Addr) (gn gc : Nat) (Z : List Int) (w : World) (h : ∀ n, n ∈ [a, b, c, d, e, f] → R64 n) (hS : OSrc w so n sc L) (hL : ∀ o, o ∈ L → Ok o) (hw : wtO L ≤ 1000000000) (hG : GSrc w go gn Z) (hgn : gn ≤ 1000000000000) (hu : Un w) :
    Calls Tryd.prog 3 #[.agg (SC ⟨a, b, c, d, e, f, so, n, sc⟩), .slice go gn gc] w fun r w' => r = .returned (.bool true) ∧ Below w.heap.size w w' := by
  obtain ⟨w1, hw1⟩ : ∃ w1, w.alloc (.cells (SC ⟨a, b, c, d, e, f, so, n, sc⟩) 26) = w1 := ⟨_, rfl⟩
  have hx1 : SBox w1 w.heap.size ⟨a, b, c, d, e, f, so, n, sc⟩ := by rw [← hw1]; exact SBox_new w _
  have hb1 : Below w.heap.size w w1 := by rw [← hw1]; exact below_new _ _
  have HX := hide hx1
  have HB := hide hb1
  have HU := hide hu
  have HS := hide hS
  have HG := hide hG
  have HA := hide (fun v (h : Un v) => awake_any v h)
  have hwl := wtO_len L
  have hnl := hS.len
  have Hn : Hid (n ≤ 1000000000000) := by show _ ≤ _; omega
  obtain ⟨T, hT⟩ : ∃ T, printT [a, b, c, d, e, f] L = T := ⟨_, rfl⟩
  have HP : Hid (∀ v, OSrc v so n sc L → Un v → Calls Tryd.prog 8 #[.agg (SC ⟨a, b, c, d, e, f, so, n, sc⟩)] v fun r w' => r = .returned (.string (bs T)) ∧ Below v.heap.size v w') := fun v s u => by
    have := print_any a b c d e f so n sc L v h s hL (by omega) u.t u.s
    rw [hT] at this
    exact this
  have hpl := printT_len h rfl hL
  rw [hT] at hpl
  have hpp := spread_all (kOf Z) (kOf_lt Z) [a, b, c, d, e, f] rfl (fun n hn => ⟨(h n hn).lo, (h n hn).hi⟩) L hL
  rw [hT] at hpp
  have HQ : Hid (∀ B : List UInt8, sprd (kOf Z) 0 T = B → B.length ≤ 100000000000 → ∀ v, Un v → Calls Tryd.prog 9 #[.string (bs B)] v fun r w' => (∃ so1 n1 c1, r = .returned (.tuple #[.agg (SC ⟨a, b, c, d, e, f, so1, n1, c1⟩), .int .i64 0, .int .i64 0]) ∧ OR w' so1 n1 c1 (L.map plainP)) ∧ Below v.heap.size v w') := fun B hB hBl v u => by
    refine (parse_any B hBl v u).mono ?_
    rintro r w' ⟨hA, hb⟩
    rw [← hB, hpp] at hA
    obtain ⟨so1, n1, c1, hr, hO, -⟩ := PaA.yes hA
    exact ⟨⟨so1, n1, c1, hr, hO⟩, hb⟩
  have HLn : Hid (∀ m, (L.map plainP).length = m → m ≤ 1000000000000) := fun m hm => by rw [List.length_map] at hm; omega
  obtain ⟨s, hs⟩ : ∃ s, bs T = s := ⟨_, rfl⟩
  have hsz : s.size = T.length := by rw [← hs, bs_size]
  have hsb : s.size ≤ 2000000000 := by omega
  have HSz := hide hsz
  have HGt : Hid (∀ i (h : i < s.size), s[i] = T.getD i 0) := by subst hs; exact bs_get _
  rw [hs] at HP
  clear hx1 hb1 hu hS hwl hnl hpl hpp hs h hL hsz hG hT
  go_enter Tryd.func3, Tryd.ntmps3
  go_wp2_with fail
  refine (HA.out _ (HU.out.on HB.out)).mono ?_
  rintro r w2 ⟨rfl, b2⟩
  have hx2 := HX.out.below b2
  have hld2 := run_ldS hx2
  have HX2 := hide hx2
  have HB2 := hide (HB.out.trans (b2.mono HB.out.size))
  clear b2 hx2
  go_wp2_with fail
  refine (HP.out _ (HS.out.below HB2.out) (HU.out.on HB2.out)).mono ?_
  rintro r w3 ⟨rfl, b3⟩
  obtain ⟨w4, hst4, hf4, hb4, hz4⟩ := madeF w3 fillL rfl
  have hst4' : (stF (.pointer (some ⟨w3.heap.size, 0, none⟩)) (.agg #[.string ⟨#[32]⟩, .string ⟨#[32, 32]⟩, .string ⟨#[9]⟩, .string ⟨#[32, 13, 32]⟩, .string ⟨#[9, 32, 9]⟩, .string ⟨#[13]⟩])).run Tryd.prog (w3.alloc (.cells #[.string ⟨#[]⟩, .string ⟨#[]⟩, .string ⟨#[]⟩, .string ⟨#[]⟩, .string ⟨#[]⟩, .string ⟨#[]⟩] 30)) = .ok () w4 := hst4
  obtain ⟨w5, hst5, hf5, hb5, hz5⟩ := madeF w4 rowsL rfl
  have hst5' : (stF (.pointer (some ⟨w4.heap.size, 0, none⟩)) (.agg #[.string ⟨#[10]⟩, .string ⟨#[13, 10]⟩, .string ⟨#[10, 10]⟩, .string ⟨#[32, 10, 35, 32, 115, 116, 111, 114, 101, 32, 49, 32, 49, 10]⟩, .string ⟨#[10, 32, 32, 35, 34, 10, 9, 10]⟩, .string ⟨#[10, 35, 10, 35, 10]⟩])).run Tryd.prog (w4.alloc (.cells #[.string ⟨#[]⟩, .string ⟨#[]⟩, .string ⟨#[]⟩, .string ⟨#[]⟩, .string ⟨#[]⟩, .string ⟨#[]⟩] 30)) = .ok () w5 := hst5
  have bw3 := HB2.out.trans (b3.mono HB2.out.size)
  have bw4 := bw3.trans (hb4.mono bw3.size)
  have bw5 := bw4.trans (hb5.mono bw4.size)
  have HD0 : Hid (Sd w w5 w.heap.size w3.heap.size w4.heap.size w5.heap.size ⟨a, b, c, d, e, f, so, n, sc⟩ none 0 0 []) := ⟨BR.nil _, ((HX2.out.below b3).below hb4).below hb5, (hb5.block _ (by omega)).trans hf4, hf5, bw5, by have := HX2.out.lt; have := b3.size; omega, by omega, by omega, by have := bw3.size; omega, Nat.le_refl _, (fun j h => by cases h)⟩
  clear hst4 hst5 hf4 hf5 hb4 hb5 bw3 bw4 bw5 b3 hz4 hz5
  go_wp2_with fail
  clear hst4' hst5' hld2 HX2
  go_loopw [8, 9, 10] (fun t u v wr => ∃ (i p m cc : Nat) (bo : Option Addr) (B : List UInt8), i ≤ s.size ∧ p ≤ i ∧ t = .slice bo m cc ∧ u = .int .i64 (p : Int) ∧ v = .int .i64 (i : Int) ∧ m ≤ 20 * i ∧ Hid (Sd w wr w.heap.size w3.heap.size w4.heap.size w5.heap.size ⟨a, b, c, d, e, f, so, n, sc⟩ bo m cc B) ∧ Hid (sprd (kOf Z) 0 T = B ++ sprd (kOf Z) p (T.drop i))) (fun _ _ v _ => s.size - (intOf v).toNat)
  case atStart => exact ⟨0, 0, 0, 0, none, [], by omega, by omega, rfl, rfl, rfl, by omega, HD0, (by show _ = _; rfl)⟩
  case round =>
    clear HD0
    obtain ⟨i, p, m, cc, bo, B, hi, hpi, rfl, rfl, rfl, hm, HD, HE⟩ := hrel
    by_cases hlt : i < s.size
    · obtain ⟨x, hx⟩ : ∃ x, s[i] = x := ⟨_, rfl⟩
      have HTd : Hid (T.drop i = x :: T.drop (i + 1)) := by
        show _ = _
        have hiT : i < T.length := by have := HSz.out; omega
        rw [List.drop_eq_getElem_cons hiT, ← hx, HGt.out i hlt]
        simp [List.getD, hiT]
      by_cases hg : gn = 0
      · obtain rfl : gn = 0 := by omega
        have hg0 : ¬ (0 : Int) < ((0 : Nat) : Int) := by omega
        obtain ⟨k, hk⟩ : ∃ k, kOf Z p = k := ⟨_, rfl⟩
        have hk0 : k = 0 := by rw [← hk]; unfold kOf; rw [if_pos (List.eq_nil_of_length_eq_zero HG.out.len)]
        subst hk0
        have hk6 : 0 < 6 := by omega
        have cf := HD.out.fc 0 hk6
        have cr := HD.out.rc 0 hk6
        have Hlk := hide (row_len 0 hk6)
        by_cases h32 : x = 32
        · have e32 : ((x.toNat : Int) == 32) = true := by rw [h32]; rfl
          have HE2 : Hid (sprd (kOf Z) 0 T = (B ++ fil 0) ++ sprd (kOf Z) (p + 1) (T.drop (i + 1))) := by show _ = _; rw [HE.out, HTd.out, sprd, if_pos h32, hk, List.append_assoc]
          clear h32 hk
          go_wp2_with (at_builtin; refine HD.out.hr.out.appS (bs (fil 0)) (by have := Hlk.out; simp only [bs_size]; omega) rfl (.tmp 50) (.tmp 53) rfl rfl rfl ?_; intro b1 q1 v1 R1 A1; have HD1 := hide (HD.out.app (F := fil 0) R1 A1 (by rw [bs_list])); clear R1 A1)
          go_roundw
          case rel => exact ⟨i + 1, p + 1, m + (bs (fil 0)).size, q1, b1, B ++ fil 0, by omega, by omega, rfl, by go_num, by go_num, by have := Hlk.out; rw [bs_size]; omega, HD1, HE2⟩
          case measure => simp [intOf]; omega
        · have e32 : ((x.toNat : Int) == 32) = false := ne_beq (n := 32) (by decide) h32
          by_cases h10 : x = 10
          · have e10 : ((x.toNat : Int) == 10) = true := by rw [h10]; rfl
            have HE2 : Hid (sprd (kOf Z) 0 T = ((B ++ row 0) ++ fil 0) ++ sprd (kOf Z) (p + 1) (T.drop (i + 1))) := by show _ = _; rw [HE.out, HTd.out, sprd, if_neg h32, if_pos h10, hk]; simp
            clear h32 h10 hk
            go_wp2_with (first | (at_builtin; refine HD1.out.hr.out.appS (bs (fil 0)) (by have := Hlk.out; simp only [bs_size]; omega) rfl (.tmp 64) (.tmp 67) rfl rfl rfl ?_; intro b2 q2 v2 R2 A2; have HD2 := hide (HD1.out.app (F := fil 0) R2 A2 (by rw [bs_list])); clear R2 A2) | (at_builtin; refine HD.out.hr.out.appS (bs (row 0)) (by have := Hlk.out; simp only [bs_size]; omega) rfl (.tmp 59) (.tmp 62) rfl rfl rfl ?_; intro b1 q1 v1 R1 A1; have HD1 := hide (HD.out.app (F := row 0) R1 A1 (by rw [bs_list])); have cf1 := HD1.out.fc 0 hk6; clear R1 A1))
            go_roundw
            case rel => exact ⟨i + 1, p + 1, m + (bs (row 0)).size + (bs (fil 0)).size, q2, b2, (B ++ row 0) ++ fil 0, by omega, by omega, rfl, by go_num, by go_num, by have := Hlk.out; rw [bs_size, bs_size]; omega, HD2, HE2⟩
            case measure => simp [intOf]; omega
          · have e10 : ((x.toNat : Int) == 10) = false := ne_beq (n := 10) (by decide) h10
            have HE2 : Hid (sprd (kOf Z) 0 T = (B ++ [x]) ++ sprd (kOf Z) p (T.drop (i + 1))) := by show _ = _; rw [HE.out, HTd.out, sprd, if_neg h32, if_neg h10]; simp
            clear h32 h10 hk
            go_wp2_with (at_builtin; refine HD.out.hr.out.app1 (x.toNat : Int) (by omega) rfl (.tmp 42) (.tmp 46) rfl rfl rfl ?_; intro b1 q1 v1 R1 A1; have HD1 := hide (HD.out.app (F := [x]) R1 A1 rfl); clear R1 A1)
            go_roundw
            case rel => exact ⟨i + 1, p, m + 1, q1, b1, B ++ [x], by omega, by omega, rfl, by go_num, by go_num, by omega, HD1, HE2⟩
            case measure => simp [intOf]; omega
      · have hgI : (0 : Int) < gn := by omega
        obtain ⟨ix, hix⟩ : ∃ ix, p % gn = ix := ⟨_, rfl⟩
        have hixl : ix < gn := by rw [← hix]; exact Nat.mod_lt _ (by omega)
        have hixI : (ix : Int) < gn := by omega
        have hm1 : (p : Int) % (gn : Int) = (ix : Int) := by omega
        have hm2 : Int.tmod (p : Int) (gn : Int) = (ix : Int) := by rw [Int.tmod_eq_emod_of_nonneg (by omega)]; exact hm1
        obtain ⟨ga, rfl, hcell⟩ := (HG.out.below HD.out.b).at ix hixl
        have hzr := HG.out.rng ix
        obtain ⟨z, hz⟩ : ∃ z, Z.getD ix 0 = z := ⟨_, rfl⟩
        rw [hz] at hcell hzr
        obtain ⟨k, hk⟩ : ∃ k, kOf Z p = k := ⟨_, rfl⟩
        have hkz : z.toNat % 6 = k := by rw [← hk]; unfold kOf; rw [if_neg (by intro e; have := HG.out.len; rw [e] at this; simp at this; omega), HG.out.len, hix, hz]
        have hz1 : z % 6 = (k : Int) := by omega
        have hz2 : Int.tmod z 6 = (k : Int) := by rw [Int.tmod_eq_emod_of_nonneg (by omega)]; exact hz1
        have hz3 := wrap8 (k : Int) (by omega) (by omega)
        have hk6i : (k : Int) < 6 := by omega
        have hk6 : k < 6 := by omega
        have cf := HD.out.fc k hk6
        have cr := HD.out.rc k hk6
        have Hlk := hide (row_len k hk6)
        by_cases h32 : x = 32
        · have e32 : ((x.toNat : Int) == 32) = true := by rw [h32]; rfl
          have HE2 : Hid (sprd (kOf Z) 0 T = (B ++ fil k) ++ sprd (kOf Z) (p + 1) (T.drop (i + 1))) := by show _ = _; rw [HE.out, HTd.out, sprd, if_pos h32, hk, List.append_assoc]
          clear h32 hk
          go_wp2_with (at_builtin; refine HD.out.hr.out.appS (bs (fil k)) (by have := Hlk.out; simp only [bs_size]; omega) rfl (.tmp 50) (.tmp 53) rfl rfl rfl ?_; intro b1 q1 v1 R1 A1; have HD1 := hide (HD.out.app (F := fil k) R1 A1 (by rw [bs_list])); clear R1 A1)
          go_roundw
          case rel => exact ⟨i + 1, p + 1, m + (bs (fil k)).size, q1, b1, B ++ fil k, by omega, by omega, rfl, by go_num, by go_num, by have := Hlk.out; rw [bs_size]; omega, HD1, HE2⟩
          case measure => simp [intOf]; omega
        · have e32 : ((x.toNat : Int) == 32) = false := ne_beq (n := 32) (by decide) h32
          by_cases h10 : x = 10
          · have e10 : ((x.toNat : Int) == 10) = true := by rw [h10]; rfl
            have HE2 : Hid (sprd (kOf Z) 0 T = ((B ++ row k) ++ fil k) ++ sprd (kOf Z) (p + 1) (T.drop (i + 1))) := by show _ = _; rw [HE.out, HTd.out, sprd, if_neg h32, if_pos h10, hk]; simp
            clear h32 h10 hk
            go_wp2_with (first | (at_builtin; refine HD1.out.hr.out.appS (bs (fil k)) (by have := Hlk.out; simp only [bs_size]; omega) rfl (.tmp 64) (.tmp 67) rfl rfl rfl ?_; intro b2 q2 v2 R2 A2; have HD2 := hide (HD1.out.app (F := fil k) R2 A2 (by rw [bs_list])); clear R2 A2) | (at_builtin; refine HD.out.hr.out.appS (bs (row k)) (by have := Hlk.out; simp only [bs_size]; omega) rfl (.tmp 59) (.tmp 62) rfl rfl rfl ?_; intro b1 q1 v1 R1 A1; have HD1 := hide (HD.out.app (F := row k) R1 A1 (by rw [bs_list])); have cf1 := HD1.out.fc k hk6; clear R1 A1))
            go_roundw
            case rel => exact ⟨i + 1, p + 1, m + (bs (row k)).size + (bs (fil k)).size, q2, b2, (B ++ row k) ++ fil k, by omega, by omega, rfl, by go_num, by go_num, by have := Hlk.out; rw [bs_size, bs_size]; omega, HD2, HE2⟩
            case measure => simp [intOf]; omega
          · have e10 : ((x.toNat : Int) == 10) = false := ne_beq (n := 10) (by decide) h10
            have HE2 : Hid (sprd (kOf Z) 0 T = (B ++ [x]) ++ sprd (kOf Z) p (T.drop (i + 1))) := by show _ = _; rw [HE.out, HTd.out, sprd, if_neg h32, if_neg h10]; simp
            clear h32 h10 hk
            go_wp2_with (at_builtin; refine HD.out.hr.out.app1 (x.toNat : Int) (by omega) rfl (.tmp 42) (.tmp 46) rfl rfl rfl ?_; intro b1 q1 v1 R1 A1; have HD1 := hide (HD.out.app (F := [x]) R1 A1 rfl); clear R1 A1)
            go_roundw
            case rel => exact ⟨i + 1, p, m + 1, q1, b1, B ++ [x], by omega, by omega, rfl, by go_num, by go_num, by omega, HD1, HE2⟩
            case measure => simp [intOf]; omega
    · have hks : ¬ (i : Int) < s.size := by omega
      have HEe : Hid (sprd (kOf Z) 0 T = B) := by
        show _ = _
        have h1 := HSz.out
        have h2 : T.drop i = [] := List.drop_eq_nil_of_le (by omega)
        rw [HE.out, h2]
        simp [sprd]
      have hcv := run_str HD.out.r
      rw [str_nI] at hcv
      have HBl : Hid (B.length ≤ 100000000000) := by show _ ≤ _; have := HD.out.r.len; rw [nI_len] at this; omega
      go_wp2_with fail
      refine (HQ.out B HEe.out HBl.out _ (HU.out.on HD.out.b)).mono ?_
      rintro r w6 ⟨⟨so1, n1, c1, rfl, hO6⟩, b6⟩
      obtain ⟨w7, hst, hy7, hb7, -⟩ := madeS w6 ⟨a, b, c, d, e, f, so1, n1, c1⟩ w6.heap.size rfl
      have hst' : (stS (.pointer (some ⟨w6.heap.size, 0, none⟩)) (.agg (SC ⟨a, b, c, d, e, f, so1, n1, c1⟩))).run Tryd.prog (w6.alloc (.cells #[.int .i64 0, .int .i64 0, .int .i64 0, .int .i64 0, .int .i64 0, .int .i64 0, .slice none 0 0] 26)) = .ok () w7 := hst
      have HX5 := hide ((HD.out.x.below b6).below hb7)
      have HY5 := hide hy7
      have HO5 := hide (hO6.below hb7)
      have Hn1 := hide (HLn.out n1 hO6.len)
      have bw6 := HD.out.b.trans (b6.mono HD.out.b.size)
      have HB5 := hide (bw6.trans (hb7.mono bw6.size))
      clear hst hy7 hb7 hO6 bw6 hcv
      go_wp2_with fail
      obtain ⟨g3, hg3⟩ : ∃ g3, w6.heap.size = g3 := ⟨_, rfl⟩
      rw [hg3] at HY5 ⊢
      clear hst' b6 hg3
      refine wp_region_held_drew (S := fun v => SBox v w.heap.size ⟨a, b, c, d, e, f, so, n, sc⟩ ∧ SBox v g3 ⟨a, b, c, d, e, f, so1, n1, c1⟩) (by kernel_rfl) (⟨HX5.out.below (below_drew1 _), HY5.out.below (below_drew1 _)⟩) (fun hHeld => ?_)
      refine wpAnyH_take (i := 0) (oi := { dst := some 78, op := Op.move (Operand.tmp 14), type := 31, pos := "outright.go:84", after := #[], guard := none }) (v := ?_) rfl (by kernel_rfl) (by kernel_rfl) (by kernel_rfl) (fun _ _ _ h => h) (Or.inl ⟨by rfl, ?_⟩) (by assumption) ?_
      rotate_left
      · (intro w hSw; (try dsimp only at hSw); go_simp); first | done | with_reducible rfl
      simp only [Act.put, List.setIfInBounds_toArray, List.set_cons_zero, List.set_cons_succ]
      refine wpAnyH_take (i := 1) (oi := { dst := some 79, op := Op.binOp BinOp.eql 31 (Operand.tmp 78) (Operand.const (Value.int IntKind.i64 0)) 31, type := 4, pos := "outright.go:84", after := #[{ on := 0, ground := Ground.data }], guard := none }) (v := ?_) rfl (by kernel_rfl) (by kernel_rfl) (by kernel_rfl) (fun _ _ _ h => h) (Or.inl ⟨by rfl, ?_⟩) (by assumption) ?_
      rotate_left
      · (intro w hSw; (try dsimp only at hSw); go_simp); first | done | with_reducible rfl
      simp only [Act.put, List.setIfInBounds_toArray, List.set_cons_zero, List.set_cons_succ]
      refine wpAnyH_take (i := 2) (oi := { dst := some 80, op := Op.move (Operand.tmp 79), type := 4, pos := "outright.go:84", after := #[{ on := 1, ground := Ground.data }], guard := none }) (v := ?_) rfl (by kernel_rfl) (by kernel_rfl) (by kernel_rfl) (fun _ _ _ h => h) (Or.inl ⟨by rfl, ?_⟩) (by assumption) ?_
      rotate_left
      · (intro w hSw; (try dsimp only at hSw); go_simp); first | done | with_reducible rfl
      simp only [Act.put, List.setIfInBounds_toArray, List.set_cons_zero, List.set_cons_succ]
      refine wpAnyH_take (i := 3) (oi := { dst := some 81, op := Op.move (Operand.tmp 13), type := 3, pos := "outright.go:84", after := #[{ on := 2, ground := Ground.guard }], guard := some (2, true) }) (v := ?_) rfl (by kernel_rfl) (by kernel_rfl) (by kernel_rfl) (fun _ _ _ h => h) (Or.inl ⟨by rfl, ?_⟩) (by assumption) ?_
      rotate_left
      · (intro w hSw; (try dsimp only at hSw); go_simp); first | done | with_reducible rfl
      simp only [Act.put, List.setIfInBounds_toArray, List.set_cons_zero, List.set_cons_succ]
      refine wpAnyH_take (i := 4) (oi := { dst := some 82, op := Op.binOp BinOp.eql 3 (Operand.tmp 81) (Operand.const (Value.int IntKind.i64 0)) 3, type := 4, pos := "outright.go:84", after := #[{ on := 3, ground := Ground.data }, { on := 2, ground := Ground.guard }], guard := some (2, true) }) (v := ?_) rfl (by kernel_rfl) (by kernel_rfl) (by kernel_rfl) (fun _ _ _ h => h) (Or.inl ⟨by rfl, ?_⟩) (by assumption) ?_
      rotate_left
      · (intro w hSw; (try dsimp only at hSw); go_simp); first | done | with_reducible rfl
      simp only [Act.put, List.setIfInBounds_toArray, List.set_cons_zero, List.set_cons_succ]
      refine wpAnyH_take (i := 5) (oi := { dst := some 83, op := Op.pick (Operand.tmp 80) (Operand.tmp 82) (Operand.const (Value.bool false)), type := 4, pos := "outright.go:84", after := #[{ on := 2, ground := Ground.data }, { on := 4, ground := Ground.data }], guard := none }) (v := ?_) rfl (by kernel_rfl) (by kernel_rfl) (by kernel_rfl) (fun _ _ _ h => h) (Or.inl ⟨by rfl, ?_⟩) (by assumption) ?_
      rotate_left
      · (intro w hSw; (try dsimp only at hSw); go_simp); first | done | with_reducible rfl
      simp only [Act.put, List.setIfInBounds_toArray, List.set_cons_zero, List.set_cons_succ]
      refine wpAnyH_take (i := 6) (oi := { dst := some 84, op := Op.move (Operand.tmp 83), type := 4, pos := "outright.go:84", after := #[{ on := 5, ground := Ground.data }, { on := 2, ground := Ground.chain }], guard := none }) (v := ?_) rfl (by kernel_rfl) (by kernel_rfl) (by kernel_rfl) (fun _ _ _ h => h) (Or.inl ⟨by rfl, ?_⟩) (by assumption) ?_
      rotate_left
      · (intro w hSw; (try dsimp only at hSw); go_simp); first | done | with_reducible rfl
      simp only [Act.put, List.setIfInBounds_toArray, List.set_cons_zero, List.set_cons_succ]
      refine wpAnyH_take (i := 7) (oi := { dst := some 85, op := Op.load 26 (Operand.tmp 12), type := 26, pos := "outright.go:84", after := #[{ on := 6, ground := Ground.guard }], guard := some (6, true) }) (v := ?_) rfl (by kernel_rfl) (by kernel_rfl) (by kernel_rfl) (fun _ _ _ h => h) (Or.inl ⟨by rfl, ?_⟩) (by assumption) ?_
      rotate_left
      · (intro w hSw; (try dsimp only at hSw); have hl := run_ldS hSw.2; go_simp); first | done | with_reducible rfl
      simp only [Act.put, List.setIfInBounds_toArray, List.set_cons_zero, List.set_cons_succ]
      refine wpAnyH_take (i := 8) (oi := { dst := some 86, op := Op.load 26 (Operand.tmp 2), type := 26, pos := "outright.go:84", after := #[{ on := 6, ground := Ground.guard }], guard := some (6, true) }) (v := ?_) rfl (by kernel_rfl) (by kernel_rfl) (by kernel_rfl) (fun _ _ _ h => h) (Or.inl ⟨by rfl, ?_⟩) (by assumption) ?_
      rotate_left
      · (intro w hSw; (try dsimp only at hSw); have hl := run_ldS hSw.1; go_simp); first | done | with_reducible rfl
      simp only [Act.put, List.setIfInBounds_toArray, List.set_cons_zero, List.set_cons_succ]
      have HBd := hide (HB5.out.trans ((below_drew1 w7).mono HB5.out.size))
      have HXd := hide (HX5.out.below (below_drew1 w7))
      have HYd := hide (HY5.out.below (below_drew1 w7))
      have HOd := hide (HO5.out.below (below_drew1 w7))
      refine wpAnyH_ready (rs := [9]) (by kernel_rfl) (by simp) ?_
      refine AllReadyH.cons rfl (fun K hK => ?_) ?_
      rotate_left
      · exact AllReadyH.nil
      go_simp
      go_wp2_with fail
      refine (plainS_any a b c d e f so n sc L w7.drew (HS.out.below HBd.out) Hn.out (HU.out.on HBd.out).s).mono ?_
      rintro r w8 ⟨so2, n2, c2, rfl, hO6, -, b6⟩
      have HX6 := hide (HXd.out.below b6)
      have HY6 := hide (HYd.out.below b6)
      have HB6 := hide (HBd.out.trans (b6.mono HBd.out.size))
      have HQ6 := hide (HOd.out.below b6)
      have HO6 := hide hO6
      refine hK.out _ _ ⟨HX6.out, HY6.out⟩ (fun hHeld => ?_)
      clear hK K hO6
      refine wpAnyH_ready (rs := [10]) (by kernel_rfl) (by simp) ?_
      refine AllReadyH.cons rfl (fun K hK => ?_) ?_
      rotate_left
      · exact AllReadyH.nil
      go_simp
      go_wp2_with fail
      refine (equal_true a b c d e f so1 n1 c1 so2 n2 c2 (L.map plainP) w8 HQ6.out.src HO6.out.src Hn1.out).mono ?_
      rintro r w9 ⟨rfl, b7⟩
      refine hK.out _ _ ⟨HX6.out.below b7, HY6.out.below b7⟩ (fun hHeld => ?_)
      clear hK K
      refine wpAnyH_take (i := 11) (oi := { dst := some 89, op := Op.pick (Operand.tmp 84) (Operand.tmp 88) (Operand.const (Value.bool false)), type := 4, pos := "outright.go:84", after := #[{ on := 6, ground := Ground.data }, { on := 10, ground := Ground.data }], guard := none }) (v := ?_) rfl (by kernel_rfl) (by kernel_rfl) (by kernel_rfl) (fun _ _ _ h => h) (Or.inl ⟨by rfl, ?_⟩) (by assumption) ?_
      rotate_left
      · (intro w hSw; (try dsimp only at hSw); go_simp); first | done | with_reducible rfl
      simp only [Act.put, List.setIfInBounds_toArray, List.set_cons_zero, List.set_cons_succ]
      refine wpAnyH_take (i := 12) (oi := { dst := some 4, op := Op.assign (Operand.tmp 89), type := 4, pos := "outright.go:84", after := #[{ on := 11, ground := Ground.data }, { on := 10, ground := Ground.chain }, { on := 0, ground := Ground.phase }, { on := 1, ground := Ground.phase }, { on := 2, ground := Ground.phase }, { on := 3, ground := Ground.phase }, { on := 4, ground := Ground.phase }, { on := 5, ground := Ground.phase }, { on := 6, ground := Ground.phase }, { on := 7, ground := Ground.phase }, { on := 8, ground := Ground.phase }, { on := 9, ground := Ground.phase }, { on := 10, ground := Ground.phase }, { on := 11, ground := Ground.phase }], guard := none }) (v := ?_) rfl (by kernel_rfl) (by kernel_rfl) (by kernel_rfl) (fun _ _ _ h => h) (Or.inl ⟨by rfl, ?_⟩) (by assumption) ?_
      rotate_left
      · (intro w hSw; (try dsimp only at hSw); go_simp); first | done | with_reducible rfl
      simp only [Act.put, List.setIfInBounds_toArray, List.set_cons_zero, List.set_cons_succ]
      refine wpAnyH_done (by kernel_rfl) ?_ _
      clear hHeld
      go_wp2_with fail
      go_ret
      exact ⟨rfl, HB6.out.trans (b7.mono HB6.out.size)⟩
end Go.Proofs.YtmemcnjabnpdmabDoor
