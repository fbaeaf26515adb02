/- vector's lists and Sort. -/
import Derived.Test.YtmmgbcmcjakdoaaWRi
namespace Go.Proofs.Ytmmgbcmcjakdoaa
open Go.RowKit Go.Sort V
attribute [local go_sem ↓] ld56_eq st56_eq
attribute [local go_sem] zeros_VC cells_VA

theorem infoL : (Try.prog.info? 24).map (fun i => (i.zero, i.size, i.bytes)) = some (some (.slice none 0 0), 1, 24) := by kernel_rfl
/-- the cells of a row of lists, filled so far -/
def oc (Y : List Sv) (n : Nat) : Array Value := (Y.map SvV ++ List.replicate (n - Y.length) (Value.slice none 0 0)).toArray
theorem madeL (n : Nat) : madeCells #[Value.slice none 0 0] n = oc [] n := by
  apply Array.ext
  · simp [madeCells, oc]
  · intro i h1 h2
    simp [madeCells, oc, Nat.mod_one]
theorem run_mkL (w : World) (n : Nat) (hn : n ≤ 1099511627776) : (Instr.makeSlice 22 (.int .i64 (n : Int)) (.int .i64 (n : Int))).run Try.prog w = .ok (.slice (some ⟨w.heap.size, 0, none⟩) n n) (w.alloc (.cells (oc [] n) 24)) := by
  obtain ⟨i0, hi, hz0, hz1, hz2⟩ := info_parts infoL
  have h := run_make (P := Try.prog) w 22 24 i0 (.slice none 0 0) Try.underlying22 hi hz0 .i64 .i64 (n : Int) (n : Int) (by omega) (by omega) (by rw [hz2]; omega) (by omega)
  rw [hz1, Int.toNat_natCast, Nat.mul_one] at h
  have hcl : (Value.slice none 0 0).cells = #[Value.slice none 0 0] := rfl
  rw [hcl, madeL] at h
  exact h
def mkL (a b : Value) : Sem Value := Instr.makeSlice 22 a b
theorem mkL_eq (a b : Value) : Instr.makeSlice 22 a b = mkL a b := rfl
attribute [local go_sem ↓] mkL_eq
theorem oc_set (Y : List Sv) (n : Nat) (p : Sv) (h : Y.length < n) : (oc Y n).setIfInBounds Y.length (SvV p) = oc (Y ++ [p]) n := by
  unfold oc
  rw [List.setIfInBounds_toArray]
  congr 1
  rw [List.set_append_right _ _ (by simp), List.map_append, List.append_assoc]
  congr 1
  have e : n - Y.length = (n - (Y ++ [p]).length) + 1 := by simp; omega
  rw [e, List.replicate_succ]
  simp
/-- the row of lists while it is made -/
structure OL (w W : World) (qo n : Nat) (Y : List Sv) : Prop where
  blk : W.heap[qo]? = some (.cells (oc Y n) 24 (0, 0))
  src : ∀ p, p ∈ Y → Src W p.vo p.vn p.vc p.Z
  far : ∀ p, p ∈ Y → ∀ ad, p.vo = some ad → qo < ad.block
theorem OL.below {w W W' : World} {qo n : Nat} {Y : List Sv} (h : OL w W qo n Y) (hb : Below W.heap.size W W') : OL w W' qo n Y :=
  ⟨(hb.block qo (Array.getElem?_eq_some_iff.1 h.blk).1).trans h.blk, fun p hp => (h.src p hp).below hb, h.far⟩
theorem OL.push {w W : World} {qo n : Nat} {Y : List Sv} (h : OL w W qo n Y) (p : Sv) (hl : Y.length < n) (hs : Src W p.vo p.vn p.vc p.Z) (hf : ∀ ad, p.vo = some ad → qo < ad.block) (k : Nat) (hk : Y.length = k) :
    OL w (W.setCell ⟨qo, k, none⟩ (SvV p)) qo n (Y ++ [p]) ∧ Below qo W (W.setCell ⟨qo, k, none⟩ (SvV p)) ∧ W.cell? ⟨qo, k, none⟩ = some (.slice none 0 0) ∧ W.frozen? ⟨qo, k, none⟩ = false := by
  subst hk
  have oth : ∀ j, j ≠ qo → (W.setCell ⟨qo, Y.length, none⟩ (SvV p)).heap[j]? = W.heap[j]? := fun j hj => by
    simp only [World.setCell, Array.getElem?_modify]
    rw [if_neg (by omega)]
  have all : ∀ x, x ∈ Y ++ [p] → Src W x.vo x.vn x.vc x.Z ∧ ∀ ad, x.vo = some ad → qo < ad.block := fun x hx => by
    rcases List.mem_append.1 hx with h1 | h1
    · exact ⟨h.src x h1, h.far x h1⟩
    · obtain rfl := List.mem_singleton.1 h1
      exact ⟨hs, hf⟩
  refine ⟨⟨?_, fun x hx => (all x hx).1.off (fun ad e => oth _ (by have := (all x hx).2 ad e; omega)), fun x hx => (all x hx).2⟩, ⟨rfl, rfl, rfl, by simp, fun j hj => oth j (by omega)⟩, ?_, by simp [World.frozen?, h.blk]⟩
  · simp [World.setCell, h.blk, Array.getElem?_modify, ← oc_set Y n p hl]
  · have e : (oc Y n)[Y.length]? = some (.slice none 0 0) := by
      have : 0 < n - Y.length := by omega
      simp [oc, this]
    simp [World.cell?, h.blk, e]
theorem OL.row {w W : World} {qo n : Nat} {Y : List Sv} (h : OL w W qo n Y) (hl : Y.length = n) : VRow W (some ⟨qo, 0, none⟩) n Y := by
  refine ⟨hl, (fun e => by cases e), fun ad e t p hp => ?_, h.src⟩
  obtain rfl := Option.some.inj e
  have ht : t < Y.length := (List.getElem?_eq_some_iff.1 hp).1
  have hv : Y[t] = p := (List.getElem?_eq_some_iff.1 hp).2
  rw [Addr.add_lit, Nat.zero_add]
  have e2 : (oc Y n)[t]? = some (SvV p) := by
    unfold oc
    rw [List.getElem?_toArray, List.getElem?_append_left (by simpa using ht), List.getElem?_map, hp]
    rfl
  simp [World.cell?, h.blk, e2]
set_option maxRecDepth 100000 in
set_option maxHeartbeats 1000000 in
theorem lists_any (q n cap : Nat) (d : Array Cn) (w : World) (hM : MC w q d) (hd : d.size = n) (hn : n ≤ 1099511627776) : Calls Try.prog 19 #[.slice (some ⟨q, 0, none⟩) n cap] w fun e w' =>
    ∃ qo Y, e = .returned (.slice (some ⟨qo, 0, none⟩) n n) ∧ VRow w' (some ⟨qo, 0, none⟩) n Y ∧ Y.map Sv.Z = d.toList.map (fun c => short c.1) ∧ Below w.heap.size w w' := by
  have hm : (mkL (.int .i64 (n : Int)) (.int .i64 (n : Int))).run Try.prog w = _ := run_mkL w n hn
  have HO : Hid (OL w (w.alloc (.cells (oc [] n) 24)) w.heap.size n []) := ⟨by rw [heap_alloc_new], (fun p h => by cases h), (fun p h => by cases h)⟩
  have HB : Hid (Below w.heap.size w (w.alloc (.cells (oc [] n) 24))) := below_new w _
  have HM := hide (hM.below HB.out)
  have HQ : Hid (q < w.heap.size) := hM.lt
  have HD := hide hd
  have HZ : Hid (w.heap.size < (w.alloc (.cells (oc [] n) 24)).heap.size) := by show _ < _; simp
  clear hM hd
  go_enter Try.func19, Try.ntmps19
  go_wp2_with fail
  clear hm
  generalize w.alloc (.cells (oc [] n) 24) = w1 at HO HB HM HZ ⊢
  go_loopw [4, 5, 11] (fun _ _ i wr => ∃ (k : Nat) (Y : List Sv), k ≤ n ∧ i = .int .i64 k ∧ Hid (Y.length = k ∧ Y.map Sv.Z = (d.toList.take k).map (fun c => short c.1)) ∧ Hid (OL w wr w.heap.size n Y) ∧ Hid (MC wr q d) ∧ Hid (Below w.heap.size w wr) ∧ Hid (w.heap.size < wr.heap.size)) (fun _ _ i _ => n - (intOf i).toNat)
  case atStart => exact ⟨0, [], Nat.zero_le _, rfl, ⟨rfl, rfl⟩, HO, HM, HB, HZ⟩
  case round =>
    obtain ⟨k, Y, hk, rfl, HY, HO, HM, HB, HZ⟩ := hrel
    by_cases hlt : k < n
    · have hkd : k < d.size := by rw [HD.out]; exact hlt
      have ld := HM.out.load k hkd
      obtain ⟨c, hc⟩ : ∃ c, d[k]! = c := ⟨_, rfl⟩
      rw [hc] at ld
      have HCC : Hid (d.toList.take (k + 1) = d.toList.take k ++ [c]) := by
        show _ = _
        rw [List.take_succ_eq_append_getElem (by simpa using hkd), ← hc, getElem!_pos d k hkd]
        simp
      have A1 := arr_new wr 42 (fun _ => 0)
      have st := run_st56 (f' := c.1) A1
      have A2 := A1.setRow (f' := c.1)
      have ld2 := run_ld56 A2
      have b2 := below_setRow (cs := VC c.1) (below_new wr (.cells (VC (fun _ => 0)) 42)) (Nat.le_refl _)
      replace HO := hide (HO.out.below b2)
      replace HM := hide (HM.out.below b2)
      replace HB := hide (HB.out.trans (b2.mono HB.out.size))
      replace HZ := hide (Nat.lt_of_lt_of_le HZ.out b2.size)
      clear hc hkd A1 A2 b2
      go_wp2_with fail
      clear ld st ld2
      refine (list_new c.1 _).mono ?_
      rintro e w2 ⟨vo, vn, vc, rfl, s2, b2, f2⟩
      have hsz := HZ.out
      have HF2 : Hid (∀ ad, vo = some ad → w.heap.size < ad.block) := fun ad e => Nat.lt_of_lt_of_le hsz (f2 ad e)
      replace HO := hide (HO.out.below b2)
      replace HM := hide (HM.out.below b2)
      replace HB := hide (HB.out.trans (b2.mono HB.out.size))
      replace HZ := hide (Nat.lt_of_lt_of_le HZ.out b2.size)
      obtain ⟨O3, B3, c3, f3⟩ := HO.out.push ⟨vo, vn, vc, short c.1⟩ (by rw [HY.out.1]; exact hlt) s2 HF2.out k HY.out.1
      have HO3 := hide O3
      have HB3 := hide (HB.out.trans B3)
      have HM3 : Hid (MC (w2.setCell ⟨w.heap.size, k, none⟩ (.slice vo vn vc)) q d) := by
        have hne : q ≠ w.heap.size := by have := HQ.out; omega
        have hb : (w2.setCell ⟨w.heap.size, k, none⟩ (.slice vo vn vc)).heap[q]? = w2.heap[q]? := by
          simp only [World.setCell, Array.getElem?_modify]
          rw [if_neg (Ne.symm hne)]
        exact ⟨fun j hj => ⟨(World.cell?_of_block hb).trans (HM.out.hk j hj).1, (World.frozen?_of_block hb).trans (HM.out.hk j hj).2⟩, by simpa using HM.out.lt⟩
      have HZ3 : Hid (w.heap.size < (w2.setCell ⟨w.heap.size, k, none⟩ (.slice vo vn vc)).heap.size) := by show _ < _; have := HZ.out; simpa using this
      have HY3 : Hid ((Y ++ [(⟨vo, vn, vc, short c.1⟩ : Sv)]).length = k + 1 ∧ (Y ++ [(⟨vo, vn, vc, short c.1⟩ : Sv)]).map Sv.Z = (d.toList.take (k + 1)).map (fun c => short c.1)) := ⟨by simp [HY.out.1], by rw [HCC.out, List.map_append, List.map_append, HY.out.2]; rfl⟩
      clear O3 B3 s2 b2 f2 hsz HO HB HM HZ HY
      go_wp2_with fail
      go_roundw
      case rel => exact ⟨k + 1, _, by omega, by go_num, HY3, HO3, HM3, HB3, HZ3⟩
      case measure => simp [intOf]; omega
    · obtain rfl : k = n := by omega
      have HV := hide (HO.out.row HY.out.1)
      have HYE : Hid (Y.map Sv.Z = d.toList.map (fun c => short c.1)) := by show _ = _; rw [HY.out.2, List.take_of_length_le (by simp [HD.out])]
      go_wp2_with fail
      go_ret
      exact ⟨w.heap.size, Y, rfl, HV.out, HYE.out, HB.out⟩
theorem sort_any (ao : Option Addr) (n cap : Nat) (X : List Sv) (w : World) (hS : VRow w ao n X) (hn : n ≤ 1099511627776) : Calls Try.prog 6 #[.slice ao n cap] w fun e w' =>
    ∃ (qo : Nat) (Y : List Sv) (d : List Cn), e = .returned (.slice (some ⟨qo, 0, none⟩) n n) ∧ VRow w' (some ⟨qo, 0, none⟩) n Y ∧ Y.map Sv.Z = d.map (fun c : Cn => short c.1) ∧ d.Perm (X.map cnOf) ∧ d.Pairwise (fun x y => cmpC x y ≤ 0) ∧ Below w.heap.size w w' := by
  have HS := hide hS
  have HN := hide hn
  clear hS
  go_enter Try.func6, Try.ntmps6
  go_wp2_with fail
  refine (rising_any ao n cap X _ HS.out HN.out).mono ?_
  rintro e w1 ⟨q, d, rfl, m1, z1, p1, o1, g1, b1⟩
  have HM := hide m1
  have HP := hide (And.intro z1 (And.intro p1 o1))
  have HB := hide b1
  clear m1 z1 p1 o1 g1 b1
  go_wp2_with fail
  refine (lists_any q n n d _ HM.out HP.out.1 HN.out).mono ?_
  rintro e w2 ⟨qo, Y, rfl, v2, y2, b2⟩
  have HF : Hid (VRow w2 (some ⟨qo, 0, none⟩) n Y ∧ Y.map Sv.Z = d.toList.map (fun c : Cn => short c.1) ∧ d.toList.Perm (X.map cnOf) ∧ d.toList.Pairwise (fun x y => cmpC x y ≤ 0) ∧ Below w.heap.size w w2) := ⟨v2, y2, HP.out.2.1, HP.out.2.2, HB.out.trans (b2.mono HB.out.size)⟩
  clear v2 y2 b2
  go_wp2_with fail
  go_ret
  exact ⟨qo, Y, d.toList, rfl, HF.out⟩
end Go.Proofs.Ytmmgbcmcjakdoaa
