/- kindOf; put. -/
import Derived.Test.YtpnnlfhknnnfhaaGreatDoorKUs
import Derived.Test.YtpnnlfhknnnfhaaGreatDoorJSo
namespace Go.Proofs.YtpnnlfhknnnfhaaGreatDoor
open Go.RowKit T Y V
variable {w w' w2 : World} {g : Nat}

/-- the table as a value -/
def TC : Array Value := (tabL.map fun l => Value.string (bs l)).toArray
theorem TC_list : TC.toList = tabL.map fun l => Value.string (bs l) := by simp [TC]
def ldT (v : Value) : Sem Value := Instr.loadAt 44 v
theorem ldT_eq (v : Value) : Instr.loadAt 44 v = ldT v := rfl
def ixT (v i : Value) : Sem Value := Instr.index 44 v i
theorem ixT_eq (v i : Value) : Instr.index 44 v i = ixT v i := rfl
theorem sizeT : (Tryz.prog.info? 44).map (·.size) = some 34 := by kernel_rfl
theorem run_ldT (h : Sht w) : (ldT (.pointer (some ⟨0, 0, none⟩))).run Tryz.prog w = .ok (.agg TC) w := by
  unfold ldT
  simp only [Instr.loadAt, Instr.sureAddr, Sem.run_bind, Sem.run_pure, Result.andThen]
  have hr : w.rangeAt 0 0 TC.toList := by
    intro j v hv
    rw [TC_list] at hv
    have hj : j < 34 := by have := (List.getElem?_eq_some_iff.1 hv).1; rw [List.length_map, tabL_len] at this; exact this
    rw [Nat.zero_add, h.cell j hj]
    have hl : j < tabL.length := by rw [tabL_len]; exact hj
    simp only [List.getElem?_map, List.getElem?_eq_getElem hl, Option.map_some, Option.some.injEq] at hv
    rw [← hv]
    simp [List.getD, hl]
  have := run_loadVar_mid (P := Tryz.prog) w 0 0 44 TC.toList _ hr Tryz.underlying44 rfl (by rw [sizeT, TC_list, List.length_map, tabL_len])
  simpa using this
theorem run_ix0 (w : World) : (ixT (.agg TC) (.int .i64 0)).run Tryz.prog w = .ok (.agg #[.string (bs (shp.getD 0 ([], [])).1), .string (bs (shp.getD 0 ([], [])).2)]) w := by kernel_rfl
theorem run_ix1 (w : World) : (ixT (.agg TC) (.int .i64 1)).run Tryz.prog w = .ok (.agg #[.string (bs (shp.getD 1 ([], [])).1), .string (bs (shp.getD 1 ([], [])).2)]) w := by kernel_rfl
theorem run_ix2 (w : World) : (ixT (.agg TC) (.int .i64 2)).run Tryz.prog w = .ok (.agg #[.string (bs (shp.getD 2 ([], [])).1), .string (bs (shp.getD 2 ([], [])).2)]) w := by kernel_rfl
theorem run_ix3 (w : World) : (ixT (.agg TC) (.int .i64 3)).run Tryz.prog w = .ok (.agg #[.string (bs (shp.getD 3 ([], [])).1), .string (bs (shp.getD 3 ([], [])).2)]) w := by kernel_rfl
theorem run_ix4 (w : World) : (ixT (.agg TC) (.int .i64 4)).run Tryz.prog w = .ok (.agg #[.string (bs (shp.getD 4 ([], [])).1), .string (bs (shp.getD 4 ([], [])).2)]) w := by kernel_rfl
theorem run_ix5 (w : World) : (ixT (.agg TC) (.int .i64 5)).run Tryz.prog w = .ok (.agg #[.string (bs (shp.getD 5 ([], [])).1), .string (bs (shp.getD 5 ([], [])).2)]) w := by kernel_rfl
theorem run_ix6 (w : World) : (ixT (.agg TC) (.int .i64 6)).run Tryz.prog w = .ok (.agg #[.string (bs (shp.getD 6 ([], [])).1), .string (bs (shp.getD 6 ([], [])).2)]) w := by kernel_rfl
theorem run_ix7 (w : World) : (ixT (.agg TC) (.int .i64 7)).run Tryz.prog w = .ok (.agg #[.string (bs (shp.getD 7 ([], [])).1), .string (bs (shp.getD 7 ([], [])).2)]) w := by kernel_rfl
theorem run_ix8 (w : World) : (ixT (.agg TC) (.int .i64 8)).run Tryz.prog w = .ok (.agg #[.string (bs (shp.getD 8 ([], [])).1), .string (bs (shp.getD 8 ([], [])).2)]) w := by kernel_rfl
theorem run_ix9 (w : World) : (ixT (.agg TC) (.int .i64 9)).run Tryz.prog w = .ok (.agg #[.string (bs (shp.getD 9 ([], [])).1), .string (bs (shp.getD 9 ([], [])).2)]) w := by kernel_rfl
theorem run_ix10 (w : World) : (ixT (.agg TC) (.int .i64 10)).run Tryz.prog w = .ok (.agg #[.string (bs (shp.getD 10 ([], [])).1), .string (bs (shp.getD 10 ([], [])).2)]) w := by kernel_rfl
theorem run_ix11 (w : World) : (ixT (.agg TC) (.int .i64 11)).run Tryz.prog w = .ok (.agg #[.string (bs (shp.getD 11 ([], [])).1), .string (bs (shp.getD 11 ([], [])).2)]) w := by kernel_rfl
theorem run_ix12 (w : World) : (ixT (.agg TC) (.int .i64 12)).run Tryz.prog w = .ok (.agg #[.string (bs (shp.getD 12 ([], [])).1), .string (bs (shp.getD 12 ([], [])).2)]) w := by kernel_rfl
theorem run_ix13 (w : World) : (ixT (.agg TC) (.int .i64 13)).run Tryz.prog w = .ok (.agg #[.string (bs (shp.getD 13 ([], [])).1), .string (bs (shp.getD 13 ([], [])).2)]) w := by kernel_rfl
theorem run_ix14 (w : World) : (ixT (.agg TC) (.int .i64 14)).run Tryz.prog w = .ok (.agg #[.string (bs (shp.getD 14 ([], [])).1), .string (bs (shp.getD 14 ([], [])).2)]) w := by kernel_rfl
theorem run_ix15 (w : World) : (ixT (.agg TC) (.int .i64 15)).run Tryz.prog w = .ok (.agg #[.string (bs (shp.getD 15 ([], [])).1), .string (bs (shp.getD 15 ([], [])).2)]) w := by kernel_rfl
theorem run_ix16 (w : World) : (ixT (.agg TC) (.int .i64 16)).run Tryz.prog w = .ok (.agg #[.string (bs (shp.getD 16 ([], [])).1), .string (bs (shp.getD 16 ([], [])).2)]) w := by kernel_rfl
theorem run_ixT (w : World) : ∀ k : Nat, k < 17 → (ixT (.agg TC) (.int .i64 (k : Int))).run Tryz.prog w = .ok (.agg #[.string (bs (shp.getD k ([], [])).1), .string (bs (shp.getD k ([], [])).2)]) w := by
  intro k hk
  have h : k = 0 ∨ k = 1 ∨ k = 2 ∨ k = 3 ∨ k = 4 ∨ k = 5 ∨ k = 6 ∨ k = 7 ∨ k = 8 ∨ k = 9 ∨ k = 10 ∨ k = 11 ∨ k = 12 ∨ k = 13 ∨ k = 14 ∨ k = 15 ∨ k = 16 := by omega
  rcases h with rfl | rfl | rfl | rfl | rfl | rfl | rfl | rfl | rfl | rfl | rfl | rfl | rfl | rfl | rfl | rfl | rfl
  · exact run_ix0 w
  · exact run_ix1 w
  · exact run_ix2 w
  · exact run_ix3 w
  · exact run_ix4 w
  · exact run_ix5 w
  · exact run_ix6 w
  · exact run_ix7 w
  · exact run_ix8 w
  · exact run_ix9 w
  · exact run_ix10 w
  · exact run_ix11 w
  · exact run_ix12 w
  · exact run_ix13 w
  · exact run_ix14 w
  · exact run_ix15 w
  · exact run_ix16 w
attribute [local go_sem ↓] ldT_eq ixT_eq ldSh_eq stSh_eq ldO_eq stO_eq
theorem kindIx_at {l : List UInt8} {k : Nat} (hk : k < 17) (h : (shp.getD k ([], [])).1 = l) : kindIx l = some k := by rw [← h]; exact kindIx_wrd k hk
theorem kindIx_no {l : List UInt8} (h : ∀ j, j < 17 → (shp.getD j ([], [])).1 ≠ l) : kindIx l = none := by
  unfold kindIx
  rw [List.findIdx?_eq_none_iff]
  intro x hx
  obtain ⟨i, hi, e⟩ := List.getElem_of_mem hx
  have h2 := h i (by simpa [shp] using hi)
  have : shp.getD i ([], []) = x := by rw [List.getD, List.getElem?_eq_getElem hi, e]; rfl
  rw [this] at h2
  simpa using h2
theorem bs_eqB (a b : List UInt8) (h : a = b) : ((bs a).toList == (bs b).toList) = true := by rw [h]; simp
theorem bs_neB (a b : List UInt8) (h : a ≠ b) : ((bs a).toList == (bs b).toList) = false := by
  rw [ByteArray.toList_eq, ByteArray.toList_eq, bs_list, bs_list]
  simpa using h
set_option maxRecDepth 100000 in
set_option maxHeartbeats 1600000 in
theorem kindOf_any (l : List UInt8) (w : World) (h : Sht w) : Calls Tryz.prog 19 #[.string (bs l)] w fun e w' => e = .returned (.tuple #[.int .i64 (((kindIx l).getD 0 : Nat) : Int), .bool (kindIx l).isSome]) ∧ Below w.heap.size w w' := by
  have hld := run_ldT h
  go_enter Tryz.func19, Tryz.ntmps19
  go_wp2_with fail
  go_loopw [7] (fun v wr => ∃ k : Nat, k ≤ 17 ∧ v = .int .i64 (k : Int) ∧ Hid (∀ j, j < k → (shp.getD j ([], [])).1 ≠ l) ∧ Hid (Below w.heap.size w wr)) (fun v _ => 17 - (intOf v).toNat)
  case atStart => exact ⟨0, by omega, rfl, (fun j hj => by omega), Below.refl _ _⟩
  case round =>
    clear hld
    obtain ⟨k, hk, rfl, HN, HB⟩ := hrel
    by_cases hlt : k < 17
    · have hlI : (k : Int) < 17 := by omega
      have hix := run_ixT wr k hlt
      obtain ⟨a, b, hab⟩ : ∃ a b, shp.getD k ([], []) = (a, b) := ⟨_, _, rfl⟩
      rw [hab] at hix
      simp only at hix
      obtain ⟨w1, hst, hbx, hbl, -⟩ := madeSh wr ⟨bs a, bs b⟩ wr.heap.size rfl
      have hst' : (stSh (.pointer (some ⟨wr.heap.size, 0, none⟩)) (.agg #[.string (bs a), .string (bs b)])).run Tryz.prog (wr.alloc (.cells #[.string ⟨#[]⟩, .string ⟨#[]⟩] 36)) = .ok () w1 := hst
      have c0 := hbx.c0
      simp only at c0
      have HB1 := hide (HB.out.trans (hbl.mono HB.out.size))
      clear hst hbx hbl
      by_cases he : a = l
      · have hq := bs_eqB a l he
        have HF : Hid (kindIx l = some k) := kindIx_at hlt (by rw [hab]; exact he)
        clear he hab
        go_wp2_with fail
        go_ret2
        exact ⟨ret_ib (by rw [HF.out]; rfl) (by rw [HF.out]; rfl), HB1.out⟩
      · have hq := bs_neB a l he
        have HN1 : Hid (∀ j, j < k + 1 → (shp.getD j ([], [])).1 ≠ l) := fun j hj => by
          by_cases hjk : j = k
          · rw [hjk, hab]; exact he
          · exact HN.out j (by omega)
        clear he hab
        go_wp2_with fail
        go_roundw
        case rel => exact ⟨k + 1, by omega, by go_num, HN1, HB1⟩
        case measure => simp [intOf]; omega
    · obtain rfl : k = 17 := by omega
      have HF : Hid (kindIx l = none) := kindIx_no HN.out
      go_wp2_with fail
      go_ret2
      exact ⟨ret_ib (by rw [HF.out]; rfl) (by rw [HF.out]; rfl), HB.out⟩
theorem fi_cls (f : UInt8) : fi f = cls f := rfl
theorem OBox.setF {o : Sp} (h : OBox w g o) (f : UInt8) (n : Int) : OBox (w.setCell ⟨g, fi f, none⟩ (.int .i64 n)) g (setN o f n) ∧ w.frozen? ⟨g, fi f, none⟩ = false := by
  unfold OBox at h ⊢
  refine ⟨?_, by simp [World.frozen?, h]⟩
  rw [heap_setCell_same w g _ _ _ _ h, setN_C, fi_cls]
  congr 2
  rcases cls_in f with e | e | e | e | e | e <;> rw [e] <;> rfl
theorem OBox.setS {o : Sp} (h : OBox w g o) (s : ByteArray) : OBox (w.setCell ⟨g, 4, none⟩ (.string s)) g { o with sku := s } ∧ w.frozen? ⟨g, 4, none⟩ = false := by
  unfold OBox at h ⊢
  refine ⟨?_, by simp [World.frozen?, h]⟩
  rw [heap_setCell_same w g _ _ _ _ h]
  rfl
/-- all but one block stays -/
structure KG (w w' : World) (g : Nat) : Prop where
  gr : w.grownBy w' (some g)
theorem KG.of (h : Below w.heap.size w w') (g : Nat) : KG w w' g := ⟨⟨h.os, h.tape, h.output, h.size, fun k hk _ => h.block k hk⟩⟩
theorem KG.set (h : KG w w' g) (i : Nat) (v : Value) : KG w (w'.setCell ⟨g, i, none⟩ v) g :=
  ⟨⟨h.gr.os, h.gr.tape, h.gr.output, by rw [World.size_setCell]; exact h.gr.size, fun k hk hne => (heap_setCell_other w' _ k v (by intro e; apply hne; rw [e])).trans (h.gr.block k hk hne)⟩⟩
theorem KG.trans (h : KG w w' g) (k : KG w' w2 g) : KG w w2 g :=
  ⟨⟨k.gr.os.trans h.gr.os, k.gr.tape.trans h.gr.tape, k.gr.output.trans h.gr.output, Nat.le_trans h.gr.size k.gr.size, fun i hi hne => (k.gr.block i (Nat.lt_of_lt_of_le hi h.gr.size) hne).trans (h.gr.block i hi hne)⟩⟩
theorem KG.below (h : KG w w' g) {n : Nat} (hn : n ≤ g) (hw : n ≤ w.heap.size) : Below n w w' := ⟨h.gr.os, h.gr.tape, h.gr.output, h.gr.size, fun k hk => h.gr.block k (by omega) (by intro e; have := Option.some.inj e; omega)⟩
set_option maxRecDepth 100000 in
set_option maxHeartbeats 1600000 in
theorem put_any (o : Sp) (f : UInt8) (l : List UInt8) (hl : l.length ≤ 1000000000000) (g : Nat) (w : World) (hx : OBox w g o) (ht : Tab w) (he : Evs w) : Calls Tryz.prog 20 #[.pointer (some ⟨g, 0, none⟩), .int .u8 (f.toNat : Int), .string (bs l)] w fun e w' => e = .returned (.bool (putF o f l).isSome) ∧ (∃ p, OBox w' g p ∧ ∀ q, putF o f l = some q → p = q) ∧ KG w w' g := by
  have hgl := hx.lt
  cases h115 : ((f.toNat : Int) == 115) with
  | true =>
    have hf := beqN (n := 115) h115
    have HF : Hid (putF o f l = (skuOf l).map (fun s => { o with sku := bs s })) := by show _ = _; unfold putF; rw [if_pos hf]
    have HC := hide (skuOf_any l hl w)
    have HX := hide hx
    obtain ⟨u, hu⟩ : ∃ u, bs ((skuOf l).getD []) = u := ⟨_, rfl⟩
    obtain ⟨b, hb⟩ : ∃ b, (skuOf l).isSome = b := ⟨_, rfl⟩
    rw [hu, hb] at HC
    have HU := hide hu
    have HBo := hide hb
    clear hx ht he hf hu hb
    go_enter Tryz.func20, Tryz.ntmps20
    go_wp2_with (go_at_call 40; refine HC.out.mono ?_; rintro e w1 ⟨rfl, b1⟩; have hx1 := HX.out.below b1; have c4 := hx1.c4; have f4 := (hx1.setS u).2; have HX2 := hide (hx1.setS u).1; have HB1 := hide b1; clear hx1)
    go_ret
    refine ⟨ret_bool (by rw [HF.out, Option.isSome_map, HBo.out]), ⟨_, HX2.out, fun q hq => ?_⟩, (KG.of HB1.out g).set 4 _⟩
    rw [HF.out] at hq
    obtain ⟨s, hs, rfl⟩ := Option.map_eq_some_iff.1 hq
    rw [← HU.out, hs]
    rfl
  | false =>
    have hf := bneN (n := 115) h115
    have HF : Hid (putF o f l = (numOf l).map (setN o f)) := by show _ = _; unfold putF; rw [if_neg hf]
    have HC := hide (numberOf_any l hl w ht he)
    have HX := hide hx
    obtain ⟨u, hu⟩ : ∃ u, (numOf l).getD 0 = u := ⟨_, rfl⟩
    obtain ⟨b, hb⟩ : ∃ b, (numOf l).isSome = b := ⟨_, rfl⟩
    rw [hu, hb] at HC
    have HU := hide hu
    have HBo := hide hb
    clear hx ht he hf hu hb
    go_enter Tryz.func20, Tryz.ntmps20
    go_wp2_with (first | (go_at_call 29; refine (numberIn_any g f _).mono ?_; rintro e w0 ⟨rfl, h0⟩; subst w0) | (go_at_call 41; refine HC.out.mono ?_; rintro e w1 ⟨rfl, b1⟩; have hx1 := HX.out.below b1; have c4 := hx1.atF f; have f4 := (hx1.setF f u).2; have HX2 := hide (hx1.setF f u).1; have HB1 := hide b1; clear hx1))
    go_ret
    refine ⟨ret_bool (by rw [HF.out, Option.isSome_map, HBo.out]), ⟨_, HX2.out, fun q hq => ?_⟩, (KG.of HB1.out g).set _ _⟩
    rw [HF.out] at hq
    obtain ⟨s, hs, rfl⟩ := Option.map_eq_some_iff.1 hq
    rw [← HU.out, hs]
    rfl
end Go.Proofs.YtpnnlfhknnnfhaaGreatDoor
