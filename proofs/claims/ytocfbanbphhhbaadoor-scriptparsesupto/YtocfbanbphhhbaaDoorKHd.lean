/- script.head; strings.Cut at a line's end. -/
import Derived.Test.YtocfbanbphhhbaaDoorKPo
import Derived.Test.YtocfbanbphhhbaaDoorKPc
import Derived.Test.YtocfbanbphhhbaaDoorKOr
import Derived.Shelf.Strings.Search1
namespace Go.Proofs.YtocfbanbphhhbaaDoor
open Go.RowKit T Y V
variable {w w' w2 : World} {g : Nat}
attribute [local go_sem ↓] ldSh_eq stSh_eq ldO_eq stO_eq ldHd_eq stHd_eq

/-! ### a text cut at its first line end -/
theorem index_cut : ∀ (t : List UInt8), (Lib.indexByte t 10 < 0 → lineOf t = t ∧ restOf t = []) ∧ (0 ≤ Lib.indexByte t 10 → lineOf t = t.take (Lib.indexByte t 10).toNat ∧ restOf t = t.drop ((Lib.indexByte t 10).toNat + 1))
  | [] => by simp [lineOf, restOf, Lib.indexByte]
  | c :: t => by
    have ih := index_cut t
    have hge := Lib.indexByte_ge t 10
    rw [Lib.indexByte]
    by_cases hc : c = 10
    · subst hc
      rw [if_pos (by decide)]
      refine ⟨fun h => by omega, fun _ => ?_⟩
      simp [lineOf, restOf]
    · have hb : (c == 10) = false := by simpa using hc
      have hn : (c != 10) = true := by simpa using hc
      have e1 : lineOf (c :: t) = c :: lineOf t := by unfold lineOf; rw [List.takeWhile_cons_of_pos (p := fun c => c != 10) hn]
      have e2 : restOf (c :: t) = restOf t := by unfold restOf; rw [List.dropWhile_cons_of_pos (p := fun c => c != 10) hn]
      rw [if_neg (by rw [hb]; simp), e1, e2]
      by_cases hi : Lib.indexByte t 10 = -1
      · rw [if_pos (by simp [hi])]
        obtain ⟨h1, h2⟩ := ih.1 (by omega)
        exact ⟨fun _ => ⟨by rw [h1], h2⟩, fun h => by omega⟩
      · rw [if_neg (by simpa using hi)]
        obtain ⟨h1, h2⟩ := ih.2 (by omega)
        refine ⟨fun h => by omega, fun _ => ?_⟩
        have e3 : (Lib.indexByte t 10 + 1).toNat = (Lib.indexByte t 10).toNat + 1 := by omega
        rw [e3, List.take_succ_cons, List.drop_succ_cons, ← h1, ← h2]
        exact ⟨rfl, rfl⟩
theorem indexNl_any (t : List UInt8) (_ : t.length ≤ 1000000000000) (w : World) : Calls Tryd.prog 46 #[.string (bs t), .string ⟨#[10]⟩] w fun e w' => e = .returned (.int .i64 (Lib.indexByte t 10)) ∧ w' = w := by
  have hC := fun w => Any.stringslite_IndexByte { Tryd.lays137 with } (bs t) 10 w
  rw [bs_list] at hC
  have e : ((10 : Int).toNat).toUInt8 = 10 := by decide
  rw [e] at hC
  have HC : Hid (∀ w, Calls Tryd.prog 64 #[.string (bs t), .int .u8 10] w fun e w' => e = .returned (.int .i64 (Lib.indexByte t 10)) ∧ w' = w) := hC
  clear hC e
  by_cases h1 : t = [10]
  · have hq : ((⟨#[10]⟩ : ByteArray).toList == (bs t).toList) = true := by rw [h1, ByteArray.toList_eq, ByteArray.toList_eq, bs_list]; rfl
    have hq2 : ([10] == (bs t).toList) = true := by rw [h1, ByteArray.toList_eq, bs_list]; rfl
    have HI : Hid (Lib.indexByte t 10 = 0) := by show _ = _; rw [h1]; rfl
    clear h1
    go_enter Tryd.func46, Tryd.ntmps46
    go_wp2_with fail
    go_ret
    exact ⟨ret_int HI.out.symm, rfl⟩
  · have hq : ((⟨#[10]⟩ : ByteArray).toList == (bs t).toList) = false := by
      rw [ByteArray.toList_eq, ByteArray.toList_eq, bs_list, beq_eq_false_iff_ne]
      exact fun h => h1 h.symm
    have hq2 : ([10] == (bs t).toList) = false := by
      rw [ByteArray.toList_eq, bs_list, beq_eq_false_iff_ne]
      exact fun h => h1 h.symm
    clear h1
    go_enter Tryd.func46, Tryd.ntmps46
    go_wp2_with (go_at_call 64; refine (HC.out _).mono ?_; rintro e w1 ⟨rfl, h1⟩; subst w1)
    go_ret
    exact ⟨rfl, rfl⟩
theorem ret_ssb {a a' b b' : ByteArray} {c c' : Bool} (h : a = a') (h2 : b = b') (h3 : c = c') : Ending.returned (.tuple #[.string a, .string b, .bool c]) = .returned (.tuple #[.string a', .string b', .bool c']) := by rw [h, h2, h3]
set_option maxRecDepth 100000 in
set_option maxHeartbeats 1600000 in
theorem cutIn_any (t : List UInt8) (ht : t.length ≤ 1000000000000) (w : World) : Calls Tryd.prog 28 #[.string (bs t), .string ⟨#[10]⟩] w fun e w' => (∃ b, e = .returned (.tuple #[.string (bs (lineOf t)), .string (bs (restOf t)), .bool b])) ∧ Below w.heap.size w w' := by
  have HI := hide (fun w => indexNl_any t ht w)
  have hc := index_cut t
  have hil := index_lt (t := t) (c := 10)
  obtain ⟨v, hv⟩ : ∃ v, Lib.indexByte t 10 = v := ⟨_, rfl⟩
  rw [hv] at HI hc hil
  obtain ⟨s, hs⟩ : ∃ s, bs t = s := ⟨_, rfl⟩
  have hsz : s.size = t.length := by rw [← hs, bs_size]
  by_cases hneg : v < 0
  · obtain ⟨h1, h2⟩ := hc.1 hneg
    have HF : Hid (bs (lineOf t) = s ∧ bs (restOf t) = ⟨#[]⟩) := by rw [h1, h2]; exact ⟨hs, rfl⟩
    have hge : ¬ 0 ≤ v := by omega
    rw [hs] at HI ⊢
    clear hc hil hv hs h1 h2 hsz hneg
    go_enter Tryd.func28, Tryd.ntmps28
    go_wp2_with (go_at_call 46; refine (HI.out _).mono ?_; rintro e w1 ⟨rfl, h1⟩; subst w1)
    refine bodyPost_ret (results_tmp3 rfl _ _ _) rfl ?_
    exact ⟨⟨false, ret_ssb HF.out.1.symm HF.out.2.symm rfl⟩, Below.refl _ _⟩
  · obtain ⟨i, rfl⟩ : ∃ i : Nat, v = (i : Int) := ⟨v.toNat, by omega⟩
    obtain ⟨h1, h2⟩ := hc.2 (by omega)
    have hi : i < t.length := by simpa using hil (by omega)
    rw [Int.toNat_natCast] at h1 h2
    obtain ⟨j, hj⟩ : ∃ j, i + 1 = j := ⟨_, rfl⟩
    have hx1 : s.extract 0 i = bs (lineOf t) := by rw [h1, ← hs, bs_cut]; rfl
    have hx2 : s.extract j s.size = bs (restOf t) := by rw [h2, hsz, ← hs, bs_cut, List.take_length, hj]
    have hjw : IntKind.i64.wrap ((i : Int) + 1) = (j : Int) := by rw [IntKind.wrap_i64]; omega
    have hjw2 : wrap64 ((i : Int) + 1) = (j : Int) := by rw [w64 (by omega) (by omega)]; omega
    have his : i ≤ s.size := by omega
    have hjs : j ≤ s.size := by omega
    have hiI : (i : Int) ≤ s.size := by omega
    have hjI : (j : Int) ≤ s.size := by omega
    have h10 : (⟨#[10]⟩ : ByteArray).size = 1 := rfl
    have hsb : s.size ≤ 1000000000000 := by omega
    rw [hs] at HI ⊢
    clear hc hil hv hs h1 h2 hsz hneg hj hi
    go_enter Tryd.func28, Tryd.ntmps28
    go_wp2_with (go_at_call 46; refine (HI.out _).mono ?_; rintro e w1 ⟨rfl, h1⟩; subst w1)
    go_quiet (fail)
    go_wp2_with fail
    refine bodyPost_ret (results_tmp3 rfl _ _ _) rfl ?_
    exact ⟨⟨true, rfl⟩, below_drewN w nq⟩
set_option maxRecDepth 100000 in
theorem cutNl_any (t : List UInt8) (ht : t.length ≤ 1000000000000) (w : World) : Calls Tryd.prog 15 #[.string (bs t), .string ⟨#[10]⟩] w fun e w' => (∃ b, e = .returned (.tuple #[.string (bs (lineOf t)), .string (bs (restOf t)), .bool b])) ∧ Below w.heap.size w w' := by
  have HI := hide (cutIn_any t ht w)
  go_enter Tryd.func15, Tryd.ntmps15
  go_wp2_with (go_at_call 28; refine HI.out.mono ?_; rintro e w1 ⟨⟨b, rfl⟩, b1⟩)
  refine bodyPost_ret (results_tmp3 rfl _ _ _) rfl ?_
  exact ⟨⟨b, rfl⟩, b1⟩
/-! ### the head -/
def hdL (l : List Int) : Hdr := ⟨l.getD 0 0, l.getD 1 0, l.getD 2 0, l.getD 3 0, l.getD 4 0, l.getD 5 0⟩
/-- head's answer -/
def HdA (ws : List (List UInt8)) (e : Ending) : Prop := e = .returned (.tuple #[.agg (HdC (hdL ((headP ws).getD []))), .bool (headP ws).isSome])
theorem HdA.no {ws : List (List UInt8)} (h : headP ws = none) : HdA ws (.returned (.tuple #[.agg (HdC hd0), .bool false])) := by unfold HdA; rw [h]; rfl
theorem HdA.yes {ws : List (List UInt8)} {l : List Int} (h : headP ws = some l) : HdA ws (.returned (.tuple #[.agg (HdC (hdL l)), .bool true])) := by unfold HdA; rw [h]; rfl
theorem res2Hd {fn : Func} {p q : Tmp} {m : Hdr} {v : Value} (h : fn.results = #[.cell p 23, .tmp q]) {tmps : Array Value} (hp : tmps.getD p undef = .pointer (some ⟨g, 0, none⟩)) (hq : tmps.getD q undef = v) (A : HdBox w g m) :
    (results fn tmps).run Tryd.prog w = .ok (.tuple #[.agg (HdC m), v]) w := by
  have hl := run_lvHd A
  simp only [results, h]
  rw [Array.getD_eq_getD_getElem?] at hp hq
  simp [hp, hq, asAddr, hl]
theorem hd_put {m o : Hdr} (h : HdBox w g m) : ∃ w1, (stHd (.pointer (some ⟨g, 0, none⟩)) (.agg (HdC o))).run Tryd.prog w = .ok () w1 ∧ HdBox w1 g o ∧ KG w w1 g := by
  refine ⟨_, run_stHd (m' := o) h, h.setRow, ⟨⟨rfl, rfl, rfl, by simp [World.setRow], fun k hk hne => setRow_other _ _ _ _ (by intro e; apply hne; rw [e])⟩⟩⟩
theorem hd_zero (w : World) : ∃ w1, w.alloc (.cells #[.int .i64 0, .int .i64 0, .int .i64 0, .int .i64 0, .int .i64 0, .int .i64 0] 23) = w1 ∧ HdBox w1 w.heap.size hd0 ∧ Below w.heap.size w w1 ∧ w1.heap.size = w.heap.size + 1 := ⟨_, rfl, HdBox_new w hd0, below_new w _, by simp⟩
def ints (l : List Int) : Array Value := (l.map (Value.int .i64)).toArray
/-- while a head's numbers are read -/
structure Hq (w v : World) (g2 g4 rb : Nat) (ws : List (List UInt8)) (N : List Int) : Prop where
  z : HdBox v g2 hd0
  n : v.heap[g4]? = some (.cells (ints N) 65 (0, 0))
  c : ∀ j l, ws[j]? = some l → v.cell? ⟨rb, j, none⟩ = some (.string (bs l))
  b : Below w.heap.size w v
  hb : rb < w.heap.size
  h2 : w.heap.size ≤ g2
  h24 : g2 < g4
theorem Hq.lt {g2 g4 rb : Nat} {ws : List (List UInt8)} {N : List Int} {v : World} (h : Hq w v g2 g4 rb ws N) : g4 < v.heap.size := (Array.getElem?_eq_some_iff.1 h.n).1
theorem Hq.below {g2 g4 rb : Nat} {ws : List (List UInt8)} {N : List Int} {v : World} (h : Hq w v g2 g4 rb ws N) (k : Below v.heap.size v w2) : Hq w w2 g2 g4 rb ws N :=
  ⟨h.z.below k, (k.block g4 h.lt).trans h.n, fun j l hj => (k.cell (by have := h.hb; have := h.b.size; show rb < _; omega)).trans (h.c j l hj), h.b.trans (k.mono h.b.size), h.hb, h.h2, h.h24⟩
theorem Hq.cell {g2 g4 rb : Nat} {ws : List (List UInt8)} {N : List Int} {v : World} (h : Hq w v g2 g4 rb ws N) (i : Nat) (hi : i < N.length) : v.cell? ⟨g4, i, none⟩ = some (.int .i64 (N.getD i 0)) ∧ v.frozen? ⟨g4, i, none⟩ = false := by
  have hn := h.n
  refine ⟨?_, by simp [World.frozen?, hn]⟩
  simp [World.cell?, hn, ints, List.getD, hi]
theorem Hq.set {g2 g4 rb : Nat} {ws : List (List UInt8)} {N : List Int} {v : World} (h : Hq w v g2 g4 rb ws N) (i : Nat) (x : Int) : Hq w (v.setCell ⟨g4, i, none⟩ (.int .i64 x)) g2 g4 rb ws (N.set i x) := by
  have h2 := h.h2
  have h24 := h.h24
  have hb := h.hb
  refine ⟨(heap_setCell_other v _ g2 _ (by show g2 ≠ g4; omega)).trans h.z, ?_, fun j l hj => ?_, h.b.setCell (by show _ ≤ g4; omega) _, h.hb, h.h2, h.h24⟩
  · rw [heap_setCell_same v g4 i _ _ _ h.n]
    congr 2
    unfold ints
    simp [List.map_set]
  · rw [World.cell?_of_block (heap_setCell_other v _ rb _ (by show rb ≠ g4; omega))]
    exact h.c j l hj
theorem numsOf_step {r : List (List UInt8)} {N : List Int} {i : Nat} (hi : i < r.length) (h : numsOf r = (numsOf (r.drop i)).map (N.take i ++ ·)) (hN : i < N.length) : (numOf (r.getD i []) = none → numsOf r = none) ∧ ∀ x, numOf (r.getD i []) = some x → numsOf r = (numsOf (r.drop (i + 1))).map ((N.set i x).take (i + 1) ++ ·) := by
  rw [List.drop_eq_getElem_cons hi, numsOf] at h
  have e : r.getD i [] = r[i] := by simp [List.getD, hi]
  rw [e]
  refine ⟨fun hn => by rw [h, hn]; rfl, fun x hx => ?_⟩
  rw [h, hx, Option.bind_some, Option.map_map]
  congr 1
  funext y
  have e2 : (N.set i x).take (i + 1) = N.take i ++ [x] := by
    rw [List.take_succ_eq_append_getElem (by simpa using hN), List.take_set_of_le (Nat.le_refl i)]
    simp
  rw [e2]
  simp
set_option maxRecDepth 100000 in
set_option maxHeartbeats 6400000 in
theorem head_any (bo : Option Addr) (n c : Nat) (w0 : List UInt8) (r : List (List UInt8)) (w : World) (hR : SR w bo n c ((w0 :: r).map bs)) (hn : n ≤ 1000000000000) (hw : ∀ l ∈ w0 :: r, l.length ≤ 1000000000000) (ht : Tab w) (he : Evs w) : Calls Tryd.prog 29 #[.slice bo n c] w fun e w' => HdA (w0 :: r) e ∧ Below w.heap.size w w' := by
  have hlen := hR.len
  have hnl : n = r.length + 1 := by simpa using hlen.symm
  obtain ⟨b, rfl, hc, hnc⟩ := SR_at hR (by omega)
  have hbl : b < w.heap.size := hR.lt b rfl
  have hcell : ∀ j l, (w0 :: r)[j]? = some l → w.cell? ⟨b, j, none⟩ = some (.string (bs l)) := fun j l hj => hc j (bs l) (by rw [List.getElem?_map, hj]; rfl)
  obtain ⟨w1, hw1, hz1, hb1, hs1⟩ := hd_zero w
  have d0 : w1.cell? ⟨b, 0, none⟩ = some (.string (bs w0)) := (hb1.cell hbl).trans (hcell 0 w0 rfl)
  obtain ⟨w2, hst2, hx2, k2⟩ := hd_put (o := hd0) hz1
  have hst2' : (stHd (.pointer (some ⟨w.heap.size, 0, none⟩)) (.agg #[.int .i64 0, .int .i64 0, .int .i64 0, .int .i64 0, .int .i64 0, .int .i64 0])).run Tryd.prog w1 = .ok () w2 := hst2
  have HX2 := hide hx2
  have HB2 : Hid (Below w.heap.size w w2) := hb1.trans (k2.below (Nat.le_refl _) hb1.size)
  have h0I : (0 : Int) < n := by omega
  by_cases hst : w0 = storeL
  · have hq : ((bs w0).toList == [115, 116, 111, 114, 101]) = true := by rw [hst, ByteArray.toList_eq, bs_list]; rfl
    by_cases h7 : n = 7
    · have hr6 : r.length = 6 := by omega
      have HF : Hid (headP (w0 :: r) = numsOf r) := by show _ = _; unfold headP; rw [if_pos ⟨hst, by simp [hr6]⟩]; rfl
      have h7b : ((n : Int) == 7) = true := by rw [beq_iff_eq]; omega
      have h7c : ((n : Int) != 7) = false := by rw [bne, h7b]; rfl
      have h1n : 1 ≤ n := by omega
      have h1nI : (1 : Int) ≤ n := by omega
      have hncI : (n : Int) ≤ c := by omega
      have hcc : ¬ c = 1 := by omega
      have hn1 : n - 1 = 6 := by omega
      have hnI : (n : Int) - 1 = 6 := by omega
      obtain ⟨w3, hw3⟩ : ∃ w3, w1.alloc (.cells #[.int .i64 0, .int .i64 0, .int .i64 0, .int .i64 0, .int .i64 0, .int .i64 0] 65) = w3 := ⟨_, rfl⟩
      have b3 : Below w1.heap.size w1 w3 := by rw [← hw3]; exact below_new _ _
      have HQ0 : Hid (Hq w w3 w.heap.size w1.heap.size b (w0 :: r) [0, 0, 0, 0, 0, 0]) := ⟨hz1.below b3, by rw [← hw3, heap_alloc_new]; rfl, fun j l hj => (b3.cell (by show b < _; omega)).trans ((hb1.cell hbl).trans (hcell j l hj)), hb1.trans (b3.mono hb1.size), hbl, Nat.le_refl _, by omega⟩
      have HT := hide ht
      have HE := hide he
      have HW := hide hw
      have Hr6 := hide hr6
      clear hR ht he hw hz1 hb1 hs1 hlen hc hcell hnl hst2 hst2' hx2 k2 b3 hst HX2 HB2 h7 hr6
      go_enter Tryd.func29, Tryd.ntmps29
      go_wp2_with fail
      clear d0 hq
      go_loopw [21] (fun v wr => ∃ (i : Nat) (N : List Int), i ≤ 6 ∧ v = .int .i64 (i : Int) ∧ Hid (N.length = 6) ∧ Hid (Hq w wr w.heap.size w1.heap.size b (w0 :: r) N) ∧ Hid (numsOf r = (numsOf (r.drop i)).map (N.take i ++ ·))) (fun v _ => 6 - (intOf v).toNat)
      case atStart => exact ⟨0, [0, 0, 0, 0, 0, 0], by omega, rfl, rfl, HQ0, (by show _ = _; simp)⟩
      case round =>
        clear HQ0
        obtain ⟨i, N, hi, rfl, HN, HQ, HA⟩ := hrel
        by_cases hlt : i < 6
        · have hiI : (i : Int) < 6 := by omega
          obtain ⟨l, hl⟩ : ∃ l, r.getD i [] = l := ⟨_, rfl⟩
          have hir : i < r.length := by have := Hr6.out; omega
          have hrl : r[i]? = some l := by rw [← hl]; simp [List.getD, hir]
          have hll : l.length ≤ 1000000000000 := HW.out l (List.mem_cons_of_mem _ (List.mem_of_getElem? hrl))
          have d1 : wr.cell? ⟨b, 1 + i, none⟩ = some (.string (bs l)) := HQ.out.c (1 + i) l (by rw [Nat.add_comm]; exact hrl)
          have hS := numsOf_step hir HA.out (by have := HN.out; omega)
          rw [hl] at hS
          have HS := hide hS
          have HC := hide (numberOf_any l hll wr (HT.out.on HQ.out.b) (HE.out.on HQ.out.b))
          clear hS hl hrl hll hir HA
          cases hx : numOf l with
          | none =>
            have HNo : Hid (headP (w0 :: r) = none) := by show _ = _; rw [HF.out]; exact HS.out.1 hx
            rw [hx] at HC
            clear HS hx
            go_wp2_with (go_at_call 47; refine HC.out.mono ?_; rintro e w5 ⟨rfl, b5⟩; have hq5 := HQ.out.below b5; obtain ⟨c5, f5⟩ := hq5.cell i (by have := HN.out; omega); have hq6 := hq5.set i 0; obtain ⟨w7, hst7, hx7, k7⟩ := hd_put (o := hd0) hq6.z; have hst7' : (stHd (.pointer (some ⟨w.heap.size, 0, none⟩)) (.agg #[.int .i64 0, .int .i64 0, .int .i64 0, .int .i64 0, .int .i64 0, .int .i64 0])).run Tryd.prog (w5.setCell ⟨w1.heap.size, i, none⟩ (.int .i64 0)) = .ok () w7 := hst7; have HX7 := hide hx7; have HB7 : Hid (Below w.heap.size w w7) := hq6.b.trans (k7.below (Nat.le_refl _) hq6.b.size); clear hq5 hq6 hx7 k7 hst7)
            exact bodyPost_ret (res2Hd Tryd.results29 rfl rfl HX7.out) rfl ⟨HdA.no HNo.out, HB7.out⟩
          | some x =>
            have HA2 := hide (HS.out.2 x hx)
            rw [hx] at HC
            clear HS hx
            go_wp2_with (go_at_call 47; refine HC.out.mono ?_; rintro e w5 ⟨rfl, b5⟩; have hq5 := HQ.out.below b5; obtain ⟨c5, f5⟩ := hq5.cell i (by have := HN.out; omega); have HQ6 := hide (hq5.set i x); clear hq5)
            go_roundw
            case rel => exact ⟨i + 1, N.set i x, by omega, by go_num, by show _ = _; rw [List.length_set]; exact HN.out, HQ6, HA2⟩
            case measure => simp [intOf]; omega
        · obtain rfl : i = 6 := by omega
          have HY : Hid (headP (w0 :: r) = some N) := by
            show _ = _
            rw [HF.out, HA.out, List.drop_eq_nil_of_le (by have := Hr6.out; omega), List.take_of_length_le (by have := HN.out; omega)]
            simp [numsOf]
          obtain ⟨e0, -⟩ := HQ.out.cell 0 (by have := HN.out; omega)
          obtain ⟨e1, -⟩ := HQ.out.cell 1 (by have := HN.out; omega)
          obtain ⟨e2, -⟩ := HQ.out.cell 2 (by have := HN.out; omega)
          obtain ⟨e3, -⟩ := HQ.out.cell 3 (by have := HN.out; omega)
          obtain ⟨e4, -⟩ := HQ.out.cell 4 (by have := HN.out; omega)
          obtain ⟨e5, -⟩ := HQ.out.cell 5 (by have := HN.out; omega)
          obtain ⟨w7, hst7, hx7, k7⟩ := hd_put (o := hdL N) HQ.out.z
          have hst7' : (stHd (.pointer (some ⟨w.heap.size, 0, none⟩)) (.agg #[.int .i64 (N.getD 0 0), .int .i64 (N.getD 1 0), .int .i64 (N.getD 2 0), .int .i64 (N.getD 3 0), .int .i64 (N.getD 4 0), .int .i64 (N.getD 5 0)])).run Tryd.prog wr = .ok () w7 := hst7
          have HX7 := hide hx7
          have HB7 : Hid (Below w.heap.size w w7) := HQ.out.b.trans (k7.below (Nat.le_refl _) HQ.out.b.size)
          obtain ⟨n0, h0⟩ : ∃ x, N.getD 0 0 = x := ⟨_, rfl⟩
          obtain ⟨n1, h1⟩ : ∃ x, N.getD 1 0 = x := ⟨_, rfl⟩
          obtain ⟨n2, h2⟩ : ∃ x, N.getD 2 0 = x := ⟨_, rfl⟩
          obtain ⟨n3, h3⟩ : ∃ x, N.getD 3 0 = x := ⟨_, rfl⟩
          obtain ⟨n4, h4⟩ : ∃ x, N.getD 4 0 = x := ⟨_, rfl⟩
          obtain ⟨n5, h5⟩ : ∃ x, N.getD 5 0 = x := ⟨_, rfl⟩
          rw [h0] at e0 hst7'
          rw [h1] at e1 hst7'
          rw [h2] at e2 hst7'
          rw [h3] at e3 hst7'
          rw [h4] at e4 hst7'
          rw [h5] at e5 hst7'
          clear hx7 k7 hst7 HA h0 h1 h2 h3 h4 h5
          go_wp2_with fail
          exact bodyPost_ret (res2Hd Tryd.results29 rfl rfl HX7.out) rfl ⟨HdA.yes HY.out, HB7.out⟩
    · have HNo : Hid (headP (w0 :: r) = none) := by show _ = _; unfold headP; rw [if_neg (by intro h; have := h.2; simp at this; omega)]
      have h7b : ((n : Int) == 7) = false := by rw [beq_eq_false_iff_ne]; omega
      have h7c : ((n : Int) != 7) = true := by rw [bne, h7b]; rfl
      clear hR ht he hw hz1 hb1 hs1 hlen hc hcell hnl hst2 hx2 k2 hst h7
      go_enter Tryd.func29, Tryd.ntmps29
      go_wp2_with fail
      exact bodyPost_ret (res2Hd Tryd.results29 rfl rfl HX2.out) rfl ⟨HdA.no HNo.out, HB2.out⟩
  · have hq : ((bs w0).toList == [115, 116, 111, 114, 101]) = false := by
      rw [ByteArray.toList_eq, bs_list, beq_eq_false_iff_ne]
      exact hst
    have HNo : Hid (headP (w0 :: r) = none) := by show _ = _; unfold headP; rw [if_neg (fun h => hst h.1)]
    clear hR ht he hw hz1 hb1 hs1 hlen hc hcell hnl hst2 hx2 k2 hst
    go_enter Tryd.func29, Tryd.ntmps29
    go_wp2_with fail
    exact bodyPost_ret (res2Hd Tryd.results29 rfl rfl HX2.out) rfl ⟨HdA.no HNo.out, HB2.out⟩
end Go.Proofs.YtocfbanbphhhbaaDoor
