/- Rows of lists of numbers; rows of counts; vector's rising. -/
import Derived.Test.YtmmgbcmcjakdoaaWRa
import Derived.Test.YtmmgbcmcjakdoaaWSh
import Derived.Deep.MidRow
import Derived.Lib.OwnBridge
import Derived.Shelf.SlSortCmp.NoneTotal
import Derived.Shelf.SlicesQ.Reverse
namespace Go.Proofs.Ytmmgbcmcjakdoaa
open Go.RowKit Go.Sort V
attribute [local go_sem ↓] ld56_eq st56_eq
attribute [local go_sem] zeros_VC cells_VA

theorem cmpC_swo : SWO (ltOf cmpC) where
  irrefl x := by
    unfold ltOf; rw [cmpC_eq, (cmpV_tot.eq _ _).2 rfl]; rfl
  trans x y z h1 h2 := by
    unfold ltOf at *
    rw [cmpC_eq] at *
    simp only [decide_eq_true_eq] at *
    exact cmpV_tot.lt h1 (by omega)
  ntrans x y z h1 h2 := by
    unfold ltOf at *
    rw [cmpC_eq] at *
    simp only [decide_eq_false_iff_not] at *
    have n1 := cmpV_tot.neg (sumN x.1 16, lst x.1) (sumN y.1 16, lst y.1)
    have n2 := cmpV_tot.neg (sumN y.1 16, lst y.1) (sumN z.1 16, lst z.1)
    have n3 := cmpV_tot.neg (sumN x.1 16, lst x.1) (sumN z.1 16, lst z.1)
    have := cmpV_tot.tr (sumN z.1 16, lst z.1) (sumN y.1 16, lst y.1) (sumN x.1 16, lst x.1) (by omega) (by omega)
    omega
theorem cmpLays (blk size : Nat) (w : World) : CmpLays Try.prog 27 #[] encC 16 cmpC blk 0 size w :=
  fun _ _ _ _ x y => by
    have e : ∀ c : Cn, (Value.agg (encC c).toArray) = VA c.1 := fun c => by simp [encC, VA]
    rw [e, e]
    exact compare_any x.1 y.1 _ x.2.1 y.2.1
/-- the block q holds the row, and may be written -/
structure MC (W : World) (q : Nat) (d : Array Cn) : Prop where
  hk : HoldsK encC 16 W q 0 d
  lt : q < W.heap.size
theorem MC.below {W W' : World} {q : Nat} {d : Array Cn} (M : MC W q d) (hb : Below W.heap.size W W') : MC W' q d :=
  ⟨fun j hj => ⟨(hb.cell M.lt).trans (M.hk j hj).1, (World.frozen?_of_block (hb.block q M.lt)).trans (M.hk j hj).2⟩, Nat.lt_of_lt_of_le M.lt hb.size⟩
theorem MC.cellAt {W : World} {q : Nat} {d : Array Cn} (M : MC W q d) (i c : Nat) (hi : i < d.size) (hc : c < 16) : W.cell? ⟨q, i * 16 + c, none⟩ = some (.int .i64 (d[i]!.1 c)) ∧ W.frozen? ⟨q, i * 16 + c, none⟩ = false := by
  have := M.hk.cell hi hc
  rw [Nat.zero_add] at this
  refine ⟨this.1.trans ?_, this.2⟩
  congr 1
  simp [encC, VC, hc]
theorem MC.load {W : World} {q : Nat} {d : Array Cn} (M : MC W q d) (i : Nat) (hi : i < d.size) : (ld56 (.pointer (some ⟨q, i * 16, none⟩))).run Try.prog W = .ok (VA d[i]!.1) W := by
  unfold ld56
  have hr : W.rangeAt q (i * 16) (VC d[i]!.1).toList := by
    intro j v hv
    have hj : j < 16 := by have := (List.getElem?_eq_some_iff.1 hv).1; simpa [VC] using this
    rw [(M.cellAt i j hi hj).1, ← hv]
    simp [VC, hj]
  simp only [Instr.loadAt, Instr.sureAddr, Sem.run_bind, Sem.run_pure, Result.andThen_ok, run_loadVar_mid W q (i * 16) 42 (VC d[i]!.1).toList _ hr Try.underlying42 rfl (by rw [size56]; simp [VC])]
theorem setMany_set (d : Array Cn) (i : Nat) (x : Cn) (hi : i < d.size) : setMany (flatK encC 16 d) (i * 16) (encC x) = flatK encC 16 (d.setIfInBounds i x) := by
  refine ext_get! (by simp) (fun t ht => ?_)
  have ht' : t < d.size * 16 := by simpa using ht
  rw [get_setMany _ _ _ _ (by simpa using ht'), get_flatK _ _ _ _ ht', get_flatK _ _ _ _ (by simpa using ht'), encC_len]
  by_cases h : i * 16 ≤ t ∧ t < i * 16 + 16
  · have e : t / 16 = i := (blk_iff 16 i t (by omega)).1 h
    rw [if_pos h, e, getElem!_pos _ i (by simpa using hi), Array.getElem_setIfInBounds_self]
    congr 1
    omega
  · have e : t / 16 ≠ i := fun e => h ((blk_iff 16 i t (by omega)).2 e)
    have hd : t / 16 < d.size := by omega
    rw [if_neg h, getElem!_pos (d.setIfInBounds i x) (t / 16) (by simpa using hd), Array.getElem_setIfInBounds_ne hd (Ne.symm e), getElem!_pos d (t / 16) hd]
theorem MC.store {W : World} {q : Nat} {d : Array Cn} (M : MC W q d) (i : Nat) (hi : i < d.size) (x : Cn) : ∃ W', (st56 (.pointer (some ⟨q, i * 16, none⟩)) (VA x.1)).run Try.prog W = .ok () W' ∧ MC W' q (d.setIfInBounds i x) ∧ Below q W W' ∧ W'.heap.size = W.heap.size := by
  have ht : W.there q (i * 16) (VC x.1).size := fun j hj => by
    have := M.cellAt i j hi (by simpa [VC] using hj)
    exact ⟨by rw [this.1]; rfl, this.2⟩
  have h := run_storeAt_mid (P := Try.prog) W q (i * 16) 42 (VC x.1) ht (by rw [size56]; simp [VC]) (by simp [VC, Value.oneCell'])
  have hz : i * 16 + (encC x).length ≤ (flatK encC 16 d).size := by rw [encC_len, size_flatK]; omega
  have e := setCells_putRow W q 0 (encC x) (i * 16) (flatK encC 16 d) hz
  rw [putRow_self id W q 0 _ M.hk, setMany_set d i x hi, Nat.zero_add] at e
  refine ⟨_, h, ?_, ?_, ?_⟩
  · show MC (W.setCells q (i * 16) (encC x)) q _
    rw [e]
    exact ⟨holdsK_putRowK _ _ W q 0 d _ M.hk (by simp), by rw [size_putRow]; exact M.lt⟩
  · show Below q W (W.setCells q (i * 16) (encC x))
    rw [e]
    have := Lib.below_putRow (enc := id) (q := 0) (d := flatK encC 16 (d.setIfInBounds i x)) (Below.refl q W) (Nat.le_refl q)
    exact this
  · show (W.setCells q (i * 16) (encC x)).heap.size = _
    rw [e, size_putRow]
/-- the rows that have been filled up to k -/
def rz (X : List Sv) (k : Nat) : Array Cn := ((X.take k).map cnOf ++ List.replicate (X.length - k) c0).toArray
theorem rz_size (X : List Sv) (k : Nat) (h : k ≤ X.length) : (rz X k).size = X.length := by simp [rz]; omega
theorem rz_set (X : List Sv) (k : Nat) (p : Sv) (h : X[k]? = some p) : (rz X k).setIfInBounds k (cnOf p) = rz X (k + 1) := by
  have hk : k < X.length := (List.getElem?_eq_some_iff.1 h).1
  have hp : X[k] = p := (List.getElem?_eq_some_iff.1 h).2
  unfold rz
  rw [List.setIfInBounds_toArray]
  congr 1
  rw [List.set_append_right _ _ (by simp; omega), List.take_succ_eq_append_getElem hk, List.map_append, List.append_assoc]
  congr 1
  have e : X.length - k = (X.length - (k + 1)) + 1 := by omega
  rw [e, List.replicate_succ]
  simp [hp, Nat.min_eq_left (Nat.le_of_lt hk)]
theorem rz_end (X : List Sv) : rz X X.length = (X.map cnOf).toArray := by simp [rz]
theorem infoC : (Try.prog.info? 42).map (fun i => (i.zero, i.size, i.bytes)) = some (some (VA (fun _ => 0)), 16, 128) := by kernel_rfl
theorem run_mkC (w : World) (n : Nat) (hn : n ≤ 1099511627776) : (Instr.makeSlice 38 (.int .i64 (n : Int)) (.int .i64 (n : Int))).run Try.prog w = .ok (.slice (some ⟨w.heap.size, 0, none⟩) n n) (w.alloc (.cells (madeCells (VC (fun _ => 0)) (n * 16)) 42)) := by
  obtain ⟨i0, hi, hz0, hz1, hz2⟩ := info_parts infoC
  have h := run_make (P := Try.prog) w 38 42 i0 (VA (fun _ => 0)) Try.underlying38 hi hz0 .i64 .i64 (n : Int) (n : Int) (by omega) (by omega) (by rw [hz2]; omega) (by omega)
  rw [hz1, Int.toNat_natCast, cells_VA] at h
  exact h
theorem made_mc (w : World) (X : List Sv) : MC (w.alloc (.cells (madeCells (VC (fun _ => 0)) (X.length * 16)) 42)) w.heap.size (rz X 0) := by
  refine ⟨fun j hj => ?_, by simp⟩
  have hj' : j < X.length * 16 := by simpa [rz] using hj
  have hs : (rz X 0).size = X.length := rz_size X 0 (by omega)
  refine ⟨?_, by unfold World.frozen?; rw [heap_alloc_new]; simp⟩
  rw [World.cell?_alloc_new, Nat.zero_add, get_flatK _ _ _ _ (by rw [hs]; exact hj')]
  have e : (rz X 0)[j / 16]! = c0 := by
    rw [getElem!_pos _ (j / 16) (by rw [hs]; omega)]
    simp [rz]
  rw [e]
  have h16 : j % 16 < 16 := by omega
  simp [madeCells, hj', encC, VC, c0, h16]
def mkC (a b : Value) : Sem Value := Instr.makeSlice 38 a b
theorem mkC_eq (a b : Value) : Instr.makeSlice 38 a b = mkC a b := rfl
theorem sortC_any (q cap n : Nat) (d : Array Cn) (w : World) (M : MC w q d) (hn : d.size = n) (hb : n ≤ 1099511627776) :
    Calls Try.prog 31 #[.slice (some ⟨q, 0, none⟩) n cap, .func (.func 27) #[] #[]] w fun e w' => e = .returned (.tuple #[]) ∧ ∃ d' : Array Cn, d'.toList.Perm d.toList ∧ d'.toList.Pairwise (fun x y => cmpC x y ≤ 0) ∧ d'.size = n ∧ MC w' q d' ∧ Below q w w' := by
  subst hn
  have eg : ∀ args w, (callFunc 27 args).run Try.prog w = .ok (.enter 27 args) w := enters_of Try.func27 (by kernel_rfl) rfl
  have h := AnyQ.slices_SortFunc Try.sortC 16 Try.isAgg42 Try.sizeOf42 encC encC_len (fun x v hv => VC_one x.1 v hv) cmpC cmpC_swo 27 #[] q 0 cap d w eg (cmpLays q d.size w) M.hk M.lt (by omega)
  refine Calls.mono h ?_
  rintro e w' ⟨rfl, d', m, os, ⟨hs, _, hp⟩, hsr, rfl⟩
  refine ⟨rfl, d', ?_, ?_, hs, ⟨holdsK_sortWorldK_c encC 16 w q 0 d d' m os M.hk M.lt hs, ?_⟩, ?_⟩
  · have e1 : d'.extract 0 d.size = d' := by rw [← hs]; simp
    have e2 : d.extract 0 d.size = d := by simp
    rwa [e1, e2] at hp
  · rw [List.pairwise_iff_getElem]
    intro i j hi hj hij
    have := hsr i j (Nat.zero_le _) hij (by rw [← hs]; simpa using hj)
    rw [getElem!_pos d' j (by simpa using hj), getElem!_pos d' i (by simpa using hi)] at this
    simp only [Array.getElem_toList]
    unfold ltOf at this
    simp only [decide_eq_false_iff_not] at this
    have n1 := cmpV_tot.neg (sumN d'[j].1 16, lst d'[j].1) (sumN d'[i].1 16, lst d'[i].1)
    rw [cmpC_eq] at this ⊢
    omega
  · have := M.lt
    show q < ((putRow id (Sort.ahead w m) q 0 (flatK encC 16 d')).heap ++ os).size
    rw [Array.size_append, size_putRow]
    show q < w.heap.size + os.size
    omega
  · have h1 : Below q w (putRow id (Sort.ahead w m) q 0 (flatK encC 16 d')) := Lib.below_putRow (Below.refl _ _) (Nat.le_refl _)
    refine h1.trans ?_
    have hsz : q ≤ (putRow id (Sort.ahead w m) q 0 (flatK encC 16 d')).heap.size := by rw [size_putRow]; exact Nat.le_of_lt M.lt
    show Below q _ (grow (putRow id (Sort.ahead w m) q 0 (flatK encC 16 d')) os)
    generalize putRow id (Sort.ahead w m) q 0 (flatK encC 16 d') = V at hsz
    exact ⟨rfl, rfl, rfl, by show _ ≤ (V.heap ++ os).size; rw [Array.size_append]; omega, fun k hk => by show (V.heap ++ os)[k]? = _; rw [Array.getElem?_append_left (by omega)]⟩
attribute [local go_sem ↓] mkC_eq
set_option maxRecDepth 100000 in
set_option maxHeartbeats 1000000 in
theorem rising_any (ao : Option Addr) (n cap : Nat) (X : List Sv) (w : World) (hS : VRow w ao n X) (hn : n ≤ 1099511627776) : Calls Try.prog 20 #[.slice ao n cap] w fun e w' =>
    ∃ q d, e = .returned (.slice (some ⟨q, 0, none⟩) n n) ∧ MC w' q d ∧ d.size = n ∧ d.toList.Perm (X.map cnOf) ∧ d.toList.Pairwise (fun x y => cmpC x y ≤ 0) ∧ w.heap.size ≤ q ∧ Below w.heap.size w w' := by
  have hl := hS.len
  have hm : (mkC (.int .i64 (n : Int)) (.int .i64 (n : Int))).run Try.prog w = _ := run_mkC w n hn
  have HM : Hid (MC (w.alloc (.cells (madeCells (VC (fun _ => 0)) (n * 16)) 42)) w.heap.size (rz X 0)) := by rw [← hl]; exact made_mc w X
  have HB : Hid (Below w.heap.size w (w.alloc (.cells (madeCells (VC (fun _ => 0)) (n * 16)) 42))) := below_new w _
  have HL := hide hl
  have HS := hide hS
  have HN := hide hn
  clear hl hS
  go_enter Try.func20, Try.ntmps20
  go_wp2_with fail
  clear hm
  generalize w.alloc (.cells (madeCells (VC (fun _ => 0)) (n * 16)) 42) = w1 at HM HB ⊢
  go_loopw [4, 5, 11] (fun _ _ i wr => ∃ k : Nat, k ≤ n ∧ i = .int .i64 k ∧ Hid (MC wr w.heap.size (rz X k)) ∧ Hid (Below w.heap.size w wr)) (fun _ _ i _ => n - (intOf i).toNat)
  case atStart => exact ⟨0, Nat.zero_le _, rfl, HM, HB⟩
  case round =>
    obtain ⟨k, hk, rfl, HM, HB⟩ := hrel
    by_cases hlt : k < n
    · obtain ⟨ad, p, rfl, hp, hc, hs⟩ := (HS.out.below HB.out).at k hlt
      have HP := hide hp
      have HSP := hide hs
      clear hp hs
      go_wp2_with fail
      refine (meant_any p.vo p.vn p.vc p.Z _ HSP.out).mono ?_
      rintro e w2 ⟨rfl, b2⟩
      obtain ⟨w3, hst, M3, B3, Z3⟩ := (HM.out.below b2).store k (by rw [rz_size X k (by rw [HL.out]; exact hk), HL.out]; exact hlt) (cnOf p)
      have hst' : (st56 (.pointer (some ⟨w.heap.size, k * 16, none⟩)) (VA (at' p.Z))).run Try.prog w2 = .ok () w3 := hst
      rw [rz_set X k p HP.out] at M3
      have HM3 := hide M3
      have HB3 := hide ((HB.out.trans (b2.mono HB.out.size)).trans B3)
      clear hst M3 B3 Z3 b2 hc HM HB
      go_wp2_with fail
      go_roundw
      case rel => exact ⟨k + 1, by omega, by go_num, HM3, HB3⟩
      case measure => simp [intOf]; omega
    · obtain rfl : k = n := by omega
      have HK : Hid (rz X k = (X.map cnOf).toArray) := by show _ = _; rw [← HL.out]; exact rz_end X
      rw [HK.out] at HM
      go_wp2_with fail
      refine (sortC_any _ _ k _ _ HM.out (by simp [HL.out]) HN.out).mono ?_
      rintro e w2 ⟨rfl, d, h1, h2, h3, h4, h5⟩
      have HF : Hid (MC w2 w.heap.size d ∧ d.size = k ∧ d.toList.Perm (X.map cnOf) ∧ d.toList.Pairwise (fun x y => cmpC x y ≤ 0) ∧ w.heap.size ≤ w.heap.size ∧ Below w.heap.size w w2) := ⟨h4, h3, by simpa using h1, h2, Nat.le_refl _, HB.out.trans h5⟩
      clear h1 h2 h3 h4 h5
      go_wp2_with fail
      go_ret
      exact ⟨w.heap.size, d, rfl, HF.out⟩
end Go.Proofs.Ytmmgbcmcjakdoaa
