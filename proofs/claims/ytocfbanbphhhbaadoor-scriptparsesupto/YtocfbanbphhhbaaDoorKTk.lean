/- (*reading).take. -/
import Derived.Test.YtocfbanbphhhbaaDoorKHd
import Derived.Test.YtocfbanbphhhbaaDoorKAw
import Derived.OrdersHeld
namespace Go.Proofs.YtocfbanbphhhbaaDoor
open Go.RowKit T Y V
variable {w w' w2 : World} {g : Nat}
attribute [local go_sem ↓] ldSh_eq stSh_eq ldO_eq stO_eq ldHd_eq stHd_eq ldS_eq stS_eq

/-- a reading's cells -/
def RdC (h : Hdr) (so : Option Addr) (n c : Nat) (b : Bool) : Array Value := #[.int .i64 h.reps, .int .i64 h.carts, .int .i64 h.lines, .int .i64 h.count, .int .i64 h.log, .int .i64 h.toks, .slice so n c, .bool b]
def Rbx (w : World) (g : Nat) (h : Hdr) (so : Option Addr) (n c : Nat) (b : Bool) : Prop := w.heap[g]? = some (.cells (RdC h so n c b) 44 (0, 0))
section
variable {h h2 : Hdr} {so : Option Addr} {n c : Nat} {b : Bool}
theorem Rbx.lt (A : Rbx w g h so n c b) : g < w.heap.size := (Array.getElem?_eq_some_iff.1 A).1
theorem Rbx.below (A : Rbx w g h so n c b) (hb : Below w.heap.size w w') : Rbx w' g h so n c b := (hb.block g A.lt).trans A
theorem Rbx.c6 (A : Rbx w g h so n c b) : w.cell? ⟨g, 6, none⟩ = some (.slice so n c) ∧ w.frozen? ⟨g, 6, none⟩ = false := by unfold Rbx at A; exact ⟨by simp [World.cell?, A, RdC], by simp [World.frozen?, A]⟩
theorem Rbx.c7 (A : Rbx w g h so n c b) : w.cell? ⟨g, 7, none⟩ = some (.bool b) ∧ w.frozen? ⟨g, 7, none⟩ = false := by unfold Rbx at A; exact ⟨by simp [World.cell?, A, RdC], by simp [World.frozen?, A]⟩
theorem Rbx.set6 (A : Rbx w g h so n c b) (bo : Option Addr) (m d : Nat) : Rbx (w.setCell ⟨g, 6, none⟩ (.slice bo m d)) g h bo m d b := by
  unfold Rbx at A ⊢
  rw [heap_setCell_same w g _ _ _ _ A]
  rfl
theorem Rbx.set7 (A : Rbx w g h so n c b) (b2 : Bool) : Rbx (w.setCell ⟨g, 7, none⟩ (.bool b2)) g h so n c b2 := by
  unfold Rbx at A ⊢
  rw [heap_setCell_same w g _ _ _ _ A]
  rfl
theorem Rbx.putH (A : Rbx w g h so n c b) (h2 : Hdr) : ∃ w1, (stHd (.pointer (some ⟨g, 0, none⟩)) (.agg (HdC h2))).run Tryd.prog w = .ok () w1 ∧ Rbx w1 g h2 so n c b ∧ KG w w1 g := by
  have hc : ∀ j, j < 6 → (w.cell? ⟨g, 0 + j, none⟩).isSome = true ∧ w.frozen? ⟨g, 0 + j, none⟩ = false := by
    intro j hj
    unfold Rbx at A
    refine ⟨?_, by simp [World.frozen?, A]⟩
    rcases (show j = 0 ∨ j = 1 ∨ j = 2 ∨ j = 3 ∨ j = 4 ∨ j = 5 by omega) with rfl | rfl | rfl | rfl | rfl | rfl <;> simp [World.cell?, A, RdC]
  have hs := run_storeAt_mid (P := Tryd.prog) w g 0 23 (HdC h2) hc sizeHd (by simp [HdC, Value.oneCell'])
  refine ⟨_, hs, ?_, (((((((KG.of (Below.refl _ _) g).set 0 _).set 1 _).set 2 _).set 3 _).set 4 _).set 5 _)⟩
  have e0 := heap_setCell_same w g 0 _ _ (.int .i64 h2.reps) A
  have e1 := heap_setCell_same _ g 1 _ _ (.int .i64 h2.carts) e0
  have e2 := heap_setCell_same _ g 2 _ _ (.int .i64 h2.lines) e1
  have e3 := heap_setCell_same _ g 3 _ _ (.int .i64 h2.count) e2
  have e4 := heap_setCell_same _ g 4 _ _ (.int .i64 h2.log) e3
  have e5 := heap_setCell_same _ g 5 _ _ (.int .i64 h2.toks) e4
  exact e5
theorem Rbx.ld (A : Rbx w g h so n c b) : (ldS (.pointer (some ⟨g, 0, none⟩))).run Tryd.prog w = .ok (.agg (SC ⟨h.reps, h.carts, h.lines, h.count, h.log, h.toks, so, n, c⟩)) w := by
  unfold ldS
  have hr : w.rangeAt g 0 (SC ⟨h.reps, h.carts, h.lines, h.count, h.log, h.toks, so, n, c⟩).toList := by
    intro j v hv
    rw [Nat.zero_add]
    unfold Rbx at A
    have hj : j < 7 := (List.getElem?_eq_some_iff.1 hv).1
    have e : (RdC h so n c b)[j]? = (SC ⟨h.reps, h.carts, h.lines, h.count, h.log, h.toks, so, n, c⟩).toList[j]? := by
      rcases (show j = 0 ∨ j = 1 ∨ j = 2 ∨ j = 3 ∨ j = 4 ∨ j = 5 ∨ j = 6 by omega) with rfl | rfl | rfl | rfl | rfl | rfl | rfl <;> rfl
    simp only [World.cell?, A]
    rw [e, hv]
    rfl
  have := run_loadAt_mid (P := Tryd.prog) w g 0 26 (SC ⟨h.reps, h.carts, h.lines, h.count, h.log, h.toks, so, n, c⟩).toList _ hr Tryd.underlying26 rfl (by rw [sizeS]; rfl)
  simpa using this
end
/-- what was read, in memory -/
structure Rm (w : World) (g : Nat) (r : Rd) (h : Hdr) (so : Option Addr) (n c : Nat) : Prop where
  x : Rbx w g h so n c r.hd.isSome
  o : OR w so n c r.ops
  e : ∀ l, r.hd = some l → h = hdL l
  k : ∀ k, blk so = some k → g < k
theorem Rm.below {r : Rd} {h : Hdr} {so : Option Addr} {n c : Nat} (A : Rm w g r h so n c) (hb : Below w.heap.size w w') : Rm w' g r h so n c := ⟨A.x.below hb, A.o.below hb, A.e, A.k⟩
theorem fold_A (z : Array Value) (y : Array Value) (h : y.size = z.size) : Array.foldl (fun cs x => cs.setIfInBounds x.snd x.fst) z y.zipIdx 0 y.size = y := by
  have hh : ∀ (l : List Value) (pre zz : List Value), zz.length = l.length → (l.zipIdx pre.length).foldl (fun (cs : Array Value) x => cs.setIfInBounds x.2 x.1) (pre ++ zz).toArray = (pre ++ l).toArray := by
    intro l
    induction l with
    | nil => intro pre zz hz; cases zz with
      | nil => rfl
      | cons _ _ => simp at hz
    | cons a l ih => intro pre zz hz; cases zz with
      | nil => simp at hz
      | cons b zz =>
        simp only [List.zipIdx_cons, List.foldl_cons]
        have e : (pre ++ b :: zz).toArray.setIfInBounds pre.length a = ((pre ++ [a]) ++ zz).toArray := by simp
        rw [e]
        have := ih (pre ++ [a]) zz (by simpa using hz)
        rw [List.length_append, List.length_singleton] at this
        rw [this]; simp
  have := hh y.toList [] z.toList (by simpa using h.symm)
  have e : y.size = y.zipIdx.size := by simp
  rw [e, ← Array.foldl_toList, Array.toList_zipIdx]
  simpa using this
theorem fold_OC (o : Sp) : Array.foldl (fun cs x => cs.setIfInBounds x.snd x.fst) #[Value.int IntKind.i64 0, Value.int IntKind.i64 0, Value.int IntKind.i64 0, Value.int IntKind.i64 0, Value.string { data := #[] }, Value.int IntKind.i64 0, Value.int IntKind.i64 0] (OC o).zipIdx 0 (OC o).size = OC o := fold_A _ (OC o) rfl
attribute [local go_sem] fold_OC
theorem cell?_old {a : Addr} {v : Value} (h : w.cell? a = some v) (o : Obj) : (w.alloc o).cell? a = some v := by
  have hl := World.block_lt_of_cell? _ _ h
  rw [(below_new w o).cell hl]
  exact h
theorem OR_one_lit (o : Sp) : (OC o).toList = ocs [o] := by simp [ocs]
set_option maxRecDepth 100000 in
set_option maxHeartbeats 6400000 in
theorem take_any (r : Rd) (l : List UInt8) (hl : l.length ≤ 1000000000000) (h : Hdr) (so : Option Addr) (n c : Nat) (hn : n ≤ 1000000000000) (w : World) (hm : Rm w g r h so n c) (hu : Un w) : Calls Tryd.prog 16 #[.pointer (some ⟨g, 0, none⟩), .string (bs l)] w fun e w' => e = .returned (.bool (takeP r l).isSome) ∧ (∀ r', takeP r l = some r' → ∃ h2 so2 n2 c2, Rm w' g r' h2 so2 n2 c2 ∧ n2 ≤ n + 1) ∧ Below g w w' := by
  have HC := hide (cut_any l hl w)
  have HU := hide hu
  have HM := hide hm
  have hgl : g ≤ w.heap.size := Nat.le_of_lt hm.x.lt
  have HG := hide hgl
  clear hm hu
  cases hc : cutP l with
  | none =>
    have HN : Hid (takeP r l = none) := by show _ = _; unfold takeP; rw [hc]
    rw [hc] at HC
    clear hc
    go_enter Tryd.func16, Tryd.ntmps16
    go_wp2_with (go_at_call 25; refine HC.out.mono ?_; rintro e w2 ⟨he2, b2⟩; obtain rfl : e = _ := he2)
    go_ret
    refine ⟨ret_bool (by rw [HN.out]; rfl), fun r' hr' => ?_, b2.mono HG.out⟩
    rw [HN.out] at hr'
    cases hr'
  | some ws =>
    have hbd := cutP_bound hc
    rw [hc] at HC
    cases ws with
    | nil =>
      have HN : Hid (takeP r l = some r) := by show _ = _; unfold takeP; rw [hc]
      clear hc hbd
      go_enter Tryd.func16, Tryd.ntmps16
      go_wp2_with (go_at_call 25; refine HC.out.mono ?_; rintro e w2 ⟨he2, b2⟩; obtain ⟨bo, m, d, rfl, hR2, -⟩ := CutA.yes he2; obtain rfl : m = 0 := (by have := hR2.len; simpa using this.symm); clear hR2 he2)
      go_ret
      refine ⟨ret_bool (by rw [HN.out]; rfl), fun r' hr' => ?_, b2.mono HG.out⟩
      rw [HN.out] at hr'
      obtain rfl := Option.some.inj hr'
      exact ⟨_, _, _, _, HM.out.below b2, by omega⟩
    | cons w0 ws =>
      have hz : ∀ bo m d v, SR v bo m d ((w0 :: ws).map bs) → m ≤ 1000000000000 ∧ ((m : Int) == 0) = false := fun bo m d v hR => by
        have h1 := hR.len
        rw [List.length_map] at h1
        have h2 : (w0 :: ws).length = ws.length + 1 := rfl
        exact ⟨by omega, by rw [beq_eq_false_iff_ne]; omega⟩
      have HZ := hide hz
      cases hh : r.hd with
      | none =>
        have hx := HM.out.x
        rw [hh] at hx
        have HX := hide hx
        have HT : Hid (takeP r l = (headP (w0 :: ws)).map fun h => ⟨some h, r.ops⟩) := by show _ = _; unfold takeP; rw [hc]; simp only; rw [hh]
        have HH : Hid (∀ bo m d v, SR v bo m d ((w0 :: ws).map bs) → Tab v → Evs v → Calls Tryd.prog 29 #[.slice bo m d] v fun e w' => HdA (w0 :: ws) e ∧ Below v.heap.size v w') := fun bo m d v hR h1 h3 => head_any bo m d w0 ws v hR (hz bo m d v hR).1 (fun x hx => by have := hbd.2 x hx; omega) h1 h3
        obtain ⟨q, hq⟩ : ∃ q, headP (w0 :: ws) = q := ⟨_, rfl⟩
        have HH2 : Hid (∀ bo m d v, SR v bo m d ((w0 :: ws).map bs) → Tab v → Evs v → Calls Tryd.prog 29 #[.slice bo m d] v fun e w' => e = .returned (.tuple #[.agg (HdC (hdL (q.getD []))), .bool q.isSome]) ∧ Below v.heap.size v w') := fun bo m d v hR h1 h3 => (HH.out bo m d v hR h1 h3).mono fun e w' ⟨h, hb⟩ => ⟨by unfold HdA at h; rw [hq] at h; exact h, hb⟩
        rw [hq] at HT
        clear hc hbd hh hx hz HH hq
        go_enter Tryd.func16, Tryd.ntmps16
        go_wp2_with (first | (go_at_call 25; refine HC.out.mono ?_; rintro e w2 ⟨he2, b2⟩; obtain ⟨bo, m, d, rfl, hR2, -⟩ := CutA.yes he2; have hmz := (HZ.out bo m d w2 hR2).2; have hx2 := HX.out.below b2; have c7 := hx2.c7.1; have HX2 := hide hx2; have HR2 := hide hR2; have HB2 := hide b2; clear hR2 b2 he2 hx2) | (go_at_call 29; refine (HH2.out _ _ _ _ HR2.out (HU.out.on HB2.out).t (HU.out.on HB2.out).e).mono ?_; rintro e w3 ⟨rfl, b3⟩; obtain ⟨w4, hst, hx4, k4⟩ := (HX2.out.below b3).putH (hdL (q.getD [])); have d7 := hx4.c7; have hx5 := hx4.set7 q.isSome; have e7 := hx5.c7.1; have HX5 := hide hx5; have HO5 := hide ((HM.out.o.below HB2.out).below b3); have bw3 := HB2.out.trans (b3.mono HB2.out.size); have HK5 := hide (k4.set 7 (.bool q.isSome)); have HB3 := hide bw3; clear hx4 k4 hx5 bw3))
        go_ret
        refine ⟨ret_bool (by rw [HT.out, Option.isSome_map]), fun r' hr' => ?_, (HB3.out.mono HG.out).trans (HK5.out.below (Nat.le_refl _) (Nat.le_trans HG.out HB3.out.size))⟩
        rw [HT.out] at hr'
        obtain ⟨h2, hq2, rfl⟩ := Option.map_eq_some_iff.1 hr'
        subst hq2
        refine ⟨hdL h2, so, n, c, ⟨HX5.out, ?_, fun l hl => ?_, HM.out.k⟩, by omega⟩
        · exact HO5.out.keep fun k e => HK5.out.gr.block k (HO5.out.lt k e) (by intro e2; have := Option.some.inj e2; have := HM.out.k k e; omega)
        · have e := Option.some.inj hl
          rw [e]
      | some hd =>
        have hx := HM.out.x
        rw [hh] at hx
        have HX := hide hx
        have Hhh := hide hh
        have HT : Hid (takeP r l = (stepP (w0 :: ws)).map fun o => ⟨some hd, r.ops ++ [o]⟩) := by show _ = _; unfold takeP; rw [hc]; simp only; rw [hh]
        have HH : Hid (∀ bo m d v, SR v bo m d ((w0 :: ws).map bs) → Un v → Calls Tryd.prog 26 #[.slice bo m d] v fun e w' => StA (w0 :: ws) e ∧ Below v.heap.size v w') := fun bo m d v hR h1 => step_any bo m d (w0 :: ws) v hR (hz bo m d v hR).1 (fun x hx => by have := hbd.2 x hx; omega) h1.t h1.s h1.e
        obtain ⟨q, hq⟩ : ∃ q, stepP (w0 :: ws) = q := ⟨_, rfl⟩
        obtain ⟨o, ho⟩ : ∃ o, q.getD sp0 = o := ⟨_, rfl⟩
        have HH2 : Hid (∀ bo m d v, SR v bo m d ((w0 :: ws).map bs) → Un v → Calls Tryd.prog 26 #[.slice bo m d] v fun e w' => e = .returned (.tuple #[.agg (OC o), .bool q.isSome]) ∧ Below v.heap.size v w') := fun bo m d v hR h1 => (HH.out bo m d v hR h1).mono fun e w' ⟨h, hb⟩ => ⟨by unfold StA at h; rw [hq, ho] at h; exact h, hb⟩
        rw [hq] at HT
        have HO := hide ho
        clear hc hbd hh hx hz HH hq ho
        go_enter Tryd.func16, Tryd.ntmps16
        go_wp2_with (first | (go_at_call 25; refine HC.out.mono ?_; rintro e w2 ⟨he2, b2⟩; obtain ⟨bo, m, d, rfl, hR2, -⟩ := CutA.yes he2; have hmz := (HZ.out bo m d w2 hR2).2; have hx2 := HX.out.below b2; have c7 := hx2.c7.1; have HX2 := hide hx2; have HR2 := hide hR2; have HB2 := hide b2; clear hR2 b2 he2 hx2) | (go_at_call 26; refine (HH2.out _ _ _ _ HR2.out (HU.out.on HB2.out)).mono ?_; rintro e w3 ⟨rfl, b3⟩; obtain ⟨w4, hst, hx4, hb4, -⟩ := madeO w3 o w3.heap.size rfl; have hst' : (stO (.pointer (some ⟨w3.heap.size, 0, none⟩)) (.agg (OC o))).run Tryd.prog (w3.alloc (.cells #[.int .i64 0, .int .i64 0, .int .i64 0, .int .i64 0, .string ⟨#[]⟩, .int .i64 0, .int .i64 0] 31)) = .ok () w4 := hst; have HOx := hide hx4; have HX4 := hide ((HX2.out.below b3).below hb4); have HO4 := hide (((HM.out.o.below HB2.out).below b3).below hb4); have bw3 := HB2.out.trans (b3.mono HB2.out.size); have HB4 := hide (bw3.trans (hb4.mono bw3.size)); clear hst hx4 hb4 bw3))
        clear hst' c7 HR2 HX2 HH2 HC
        have hOd := HO4.out.below (below_drew1 w4)
        obtain ⟨b6, q6, w6, hrun, R6, A6⟩ := hOd.runs (L := [o]) (m := 1) (cs := OC o) rfl (OR_one_lit o) (by omega) 24
        have hXd := HX4.out.below (below_drew1 w4)
        have hX6 : Rbx w6 g h so n c true := (A6.grown.block g hXd.lt (fun e => by have := HM.out.k g e.symm; omega)).trans hXd
        have hK6 : ∀ k, blk b6 = some k → g < k := fun k hk => by
          rcases A6.lies with e | ⟨j, e, hj⟩
          · exact HM.out.k k (e ▸ hk)
          · rw [e] at hk
            have h1 := Option.some.inj hk
            have h2 := hXd.lt
            omega
        have hB6 : Below g w w6 := (HB4.out.mono HG.out).trans (((below_drew1 w4).mono (Nat.le_trans HG.out HB4.out.size)).trans ⟨A6.grown.os, A6.grown.tape, A6.grown.output, A6.grown.size, fun k hk => A6.grown.block k (by have := hXd.lt; omega) (fun e => by have := HM.out.k k e.symm; omega)⟩)
        have hO6 : OBox w6 w3.heap.size o := by
          have hd := HOx.out.below (below_drew1 w4)
          refine (A6.grown.block w3.heap.size hd.lt (fun e => ?_)).trans hd
          have h1 := (HM.out.o.below HB2.out).lt w3.heap.size e.symm
          have h2 := b3.size
          omega
        have t6 := hX6.c6
        have HX7 := hide (hX6.set6 b6 (n + 1) q6)
        have HO7 : Hid (OBox (w6.setCell ⟨g, 6, none⟩ (.slice b6 (n + 1) q6)) w3.heap.size o) := (heap_setCell_other w6 _ w3.heap.size _ (by show w3.heap.size ≠ g; have := HX.out.lt; have := HB2.out.size; have := b3.size; omega)).trans hO6
        have HR7 : Hid (OR (w6.setCell ⟨g, 6, none⟩ (.slice b6 (n + 1) q6)) b6 (n + 1) q6 (r.ops ++ [o])) := R6.keep fun k e => heap_setCell_other w6 _ k _ (by show k ≠ g; have := hK6 k e; omega)
        have HB7 : Hid (Below g w (w6.setCell ⟨g, 6, none⟩ (.slice b6 (n + 1) q6))) := hB6.setCell (Nat.le_refl _) _
        have HK6 := hide hK6
        have HO6 := hide hO6
        have u6 := HX4.out.c6.1
        clear R6 A6 hX6 hXd hOd hB6 hK6 hO6 b3
        refine wp_region_held_drew (S := fun v => OBox v w3.heap.size o) (by kernel_rfl) (HOx.out.below (below_drew1 _)) (fun hHeld => ?_)
        refine wpAnyH_take (i := 0) (oi := { dst := some 47, op := Op.move (Operand.tmp 0), type := 63, pos := "parse.go:27", after := #[], guard := none }) (v := ?_) rfl (by kernel_rfl) (by kernel_rfl) (by kernel_rfl) (fun _ _ _ h => h) (Or.inl ⟨by rfl, ?_⟩) (by assumption) ?_
        rotate_left
        · (intro w hSw; (try dsimp only at hSw); go_simp); first | done | with_reducible rfl
        simp only [Act.put, List.setIfInBounds_toArray, List.set_cons_zero, List.set_cons_succ]
        refine wpAnyH_take (i := 1) (oi := { dst := some 48, op := Op.move (Operand.tmp 0), type := 63, pos := "parse.go:27", after := #[], guard := none }) (v := ?_) rfl (by kernel_rfl) (by kernel_rfl) (by kernel_rfl) (fun _ _ _ h => h) (Or.inl ⟨by rfl, ?_⟩) (by assumption) ?_
        rotate_left
        · (intro w hSw; (try dsimp only at hSw); go_simp); first | done | with_reducible rfl
        simp only [Act.put, List.setIfInBounds_toArray, List.set_cons_zero, List.set_cons_succ]
        refine wpAnyH_take (i := 2) (oi := { dst := some 49, op := Op.nilCheck (Operand.tmp 48), type := 0, pos := "parse.go:27", after := #[{ on := 1, ground := Ground.data }], guard := none }) (v := ?_) rfl (by kernel_rfl) (by kernel_rfl) (by kernel_rfl) (fun _ _ _ h => h) (Or.inl ⟨by rfl, ?_⟩) (by assumption) ?_
        rotate_left
        · (intro w hSw; (try dsimp only at hSw); go_simp); first | done | with_reducible rfl
        simp only [Act.put, List.setIfInBounds_toArray, List.set_cons_zero, List.set_cons_succ]
        refine wpAnyH_take (i := 3) (oi := { dst := some 50, op := Op.fieldAddr 44 (Operand.tmp 49) 0, type := 0, pos := "parse.go:27", after := #[{ on := 2, ground := Ground.data }], guard := none }) (v := ?_) rfl (by kernel_rfl) (by kernel_rfl) (by kernel_rfl) (fun _ _ _ h => h) (Or.inl ⟨by rfl, ?_⟩) (by assumption) ?_
        rotate_left
        · (intro w hSw; (try dsimp only at hSw); go_simp); first | done | with_reducible rfl
        simp only [Act.put, List.setIfInBounds_toArray, List.set_cons_zero, List.set_cons_succ]
        refine wpAnyH_take (i := 4) (oi := { dst := some 51, op := Op.fieldAddr 26 (Operand.tmp 50) 1, type := 0, pos := "parse.go:27", after := #[{ on := 3, ground := Ground.data }], guard := none }) (v := ?_) rfl (by kernel_rfl) (by kernel_rfl) (by kernel_rfl) (fun _ _ _ h => h) (Or.inl ⟨by rfl, ?_⟩) (by assumption) ?_
        rotate_left
        · (intro w hSw; (try dsimp only at hSw); go_simp); first | done | with_reducible rfl
        simp only [Act.put, List.setIfInBounds_toArray, List.set_cons_zero, List.set_cons_succ]
        refine wpAnyH_take (i := 6) (oi := { dst := some 53, op := Op.load 31 (Operand.tmp 7), type := 31, pos := "parse.go:27", after := #[], guard := none }) (v := ?_) rfl (by kernel_rfl) (by kernel_rfl) (by kernel_rfl) (fun _ _ _ h => h) (Or.inl ⟨by rfl, ?_⟩) (by assumption) ?_
        rotate_left
        · (intro w hSw; (try dsimp only at hSw); have hl := run_ldO hSw; go_simp); first | done | with_reducible rfl
        simp only [Act.put, List.setIfInBounds_toArray, List.set_cons_zero, List.set_cons_succ]
        refine wpAnyH_ready (rs := [5, 7]) (by kernel_rfl) (by simp) ?_
        refine AllReadyH.cons rfl (fun K hK => ?_) (AllReadyH.cons rfl (fun K hK => ?_) AllReadyH.nil)
        · go_simp
          go_wp2_with fail
          refine hK.out _ _ (HOx.out.below (below_drew1 _)) (fun hHeld => ?_)
          clear hK K
          refine wpAnyH_ready (rs := [7]) (by kernel_rfl) (by simp) ?_
          refine AllReadyH.cons rfl (fun K hK => ?_) ?_
          rotate_left
          · exact AllReadyH.nil
          go_simp
          refine hK.out _ (w4.drew.alloc (.cells (OC o) 31)) ((HOx.out.below (below_drew1 _)).below (below_new _ _)) (fun hHeld => ?_)
          clear hK K
          refine wpAnyH_ready (rs := [8]) (by kernel_rfl) (by simp) ?_
          refine AllReadyH.cons rfl (fun K hK => ?_) ?_
          rotate_left
          · exact AllReadyH.nil
          refine step_appO (by rfl) (.tmp 52) (.tmp 54) (by rfl) (by rfl) (by rfl) hrun ?_
          refine hK.out _ _ HO6.out (fun hHeld => ?_)
          clear hK K
          refine wpAnyH_take (i := 9) (oi := { dst := some 56, op := Op.nilCheck (Operand.tmp 47), type := 0, pos := "parse.go:27", after := #[{ on := 0, ground := Ground.data }, { on := 0, ground := Ground.phase }, { on := 1, ground := Ground.phase }, { on := 2, ground := Ground.phase }, { on := 3, ground := Ground.phase }, { on := 4, ground := Ground.phase }, { on := 5, ground := Ground.phase }, { on := 6, ground := Ground.phase }, { on := 7, ground := Ground.phase }, { on := 8, ground := Ground.phase }], guard := none }) (v := ?_) rfl (by kernel_rfl) (by kernel_rfl) (by kernel_rfl) (fun _ _ _ h => h) (Or.inl ⟨by rfl, ?_⟩) (by assumption) ?_
          rotate_left
          · (intro w hSw; (try dsimp only at hSw); go_simp); first | done | with_reducible rfl
          simp only [Act.put, List.setIfInBounds_toArray, List.set_cons_zero, List.set_cons_succ]
          refine wpAnyH_take (i := 10) (oi := { dst := some 57, op := Op.fieldAddr 44 (Operand.tmp 56) 0, type := 0, pos := "parse.go:27", after := #[{ on := 9, ground := Ground.data }, { on := 0, ground := Ground.phase }, { on := 1, ground := Ground.phase }, { on := 2, ground := Ground.phase }, { on := 3, ground := Ground.phase }, { on := 4, ground := Ground.phase }, { on := 5, ground := Ground.phase }, { on := 6, ground := Ground.phase }, { on := 7, ground := Ground.phase }, { on := 8, ground := Ground.phase }], guard := none }) (v := ?_) rfl (by kernel_rfl) (by kernel_rfl) (by kernel_rfl) (fun _ _ _ h => h) (Or.inl ⟨by rfl, ?_⟩) (by assumption) ?_
          rotate_left
          · (intro w hSw; (try dsimp only at hSw); go_simp); first | done | with_reducible rfl
          simp only [Act.put]
          refine wpAnyH_take (i := 11) (oi := { dst := some 58, op := Op.fieldAddr 26 (Operand.tmp 57) 1, type := 0, pos := "parse.go:27", after := #[{ on := 10, ground := Ground.data }, { on := 0, ground := Ground.phase }, { on := 1, ground := Ground.phase }, { on := 2, ground := Ground.phase }, { on := 3, ground := Ground.phase }, { on := 4, ground := Ground.phase }, { on := 5, ground := Ground.phase }, { on := 6, ground := Ground.phase }, { on := 7, ground := Ground.phase }, { on := 8, ground := Ground.phase }], guard := none }) (v := ?_) rfl (by kernel_rfl) (by kernel_rfl) (by kernel_rfl) (fun _ _ _ h => h) (Or.inl ⟨by rfl, ?_⟩) (by assumption) ?_
          rotate_left
          · (intro w hSw; (try dsimp only at hSw); go_simp); first | done | with_reducible rfl
          simp only [Act.put]
          refine wpAnyH_ready (rs := [12]) (by kernel_rfl) (by simp) ?_
          refine AllReadyH.cons rfl (fun K hK => ?_) ?_
          rotate_left
          · exact AllReadyH.nil
          go_simp
          go_wp2_with fail
          refine hK.out _ _ HO7.out (fun hHeld => ?_)
          clear hK K
          refine wpAnyH_done (by kernel_rfl) ?_ _
          clear hHeld
          go_wp2_with fail
          go_ret
          refine ⟨ret_bool (by rw [HT.out, Option.isSome_map]), fun r' hr' => ?_, HB7.out⟩
          rw [HT.out] at hr'
          obtain ⟨o2, hq2, rfl⟩ := Option.map_eq_some_iff.1 hr'
          have e : o = o2 := by rw [← HO.out, hq2]; rfl
          subst e
          exact ⟨_, _, _, _, ⟨HX7.out, HR7.out, fun l hl => HM.out.e l (by rw [Hhh.out]; exact hl), HK6.out⟩, by omega⟩
        · go_simp
          refine hK.out _ (w4.drew.alloc (.cells (OC o) 31)) ((HOx.out.below (below_drew1 _)).below (below_new _ _)) (fun hHeld => ?_)
          clear hK K
          refine wpAnyH_ready (rs := [5]) (by kernel_rfl) (by simp) ?_
          refine AllReadyH.cons rfl (fun K hK => ?_) ?_
          rotate_left
          · exact AllReadyH.nil
          have u8 := cell?_old u6 (.cells (OC o) 31)
          have u7 : (w4.drew.alloc (.cells (OC o) 31)).cell? ⟨g, 6, none⟩ = some (.slice so n c) := cell?_old (w := w4.drew) u6 (.cells (OC o) 31)
          go_simp
          go_wp2_with fail
          refine hK.out _ (w4.drew.alloc (.cells (OC o) 31)) ((HOx.out.below (below_drew1 _)).below (below_new _ _)) (fun hHeld => ?_)
          clear hK K
          refine wpAnyH_ready (rs := [8]) (by kernel_rfl) (by simp) ?_
          refine AllReadyH.cons rfl (fun K hK => ?_) ?_
          rotate_left
          · exact AllReadyH.nil
          refine step_appO (by rfl) (.tmp 52) (.tmp 54) (by rfl) (by rfl) (by rfl) hrun ?_
          refine hK.out _ _ HO6.out (fun hHeld => ?_)
          clear hK K
          refine wpAnyH_take (i := 9) (oi := { dst := some 56, op := Op.nilCheck (Operand.tmp 47), type := 0, pos := "parse.go:27", after := #[{ on := 0, ground := Ground.data }, { on := 0, ground := Ground.phase }, { on := 1, ground := Ground.phase }, { on := 2, ground := Ground.phase }, { on := 3, ground := Ground.phase }, { on := 4, ground := Ground.phase }, { on := 5, ground := Ground.phase }, { on := 6, ground := Ground.phase }, { on := 7, ground := Ground.phase }, { on := 8, ground := Ground.phase }], guard := none }) (v := ?_) rfl (by kernel_rfl) (by kernel_rfl) (by kernel_rfl) (fun _ _ _ h => h) (Or.inl ⟨by rfl, ?_⟩) (by assumption) ?_
          rotate_left
          · (intro w hSw; (try dsimp only at hSw); go_simp); first | done | with_reducible rfl
          simp only [Act.put, List.setIfInBounds_toArray]
          refine wpAnyH_take (i := 10) (oi := { dst := some 57, op := Op.fieldAddr 44 (Operand.tmp 56) 0, type := 0, pos := "parse.go:27", after := #[{ on := 9, ground := Ground.data }, { on := 0, ground := Ground.phase }, { on := 1, ground := Ground.phase }, { on := 2, ground := Ground.phase }, { on := 3, ground := Ground.phase }, { on := 4, ground := Ground.phase }, { on := 5, ground := Ground.phase }, { on := 6, ground := Ground.phase }, { on := 7, ground := Ground.phase }, { on := 8, ground := Ground.phase }], guard := none }) (v := ?_) rfl (by kernel_rfl) (by kernel_rfl) (by kernel_rfl) (fun _ _ _ h => h) (Or.inl ⟨by rfl, ?_⟩) (by assumption) ?_
          rotate_left
          · (intro w hSw; (try dsimp only at hSw); go_simp); first | done | with_reducible rfl
          simp only [Act.put]
          refine wpAnyH_take (i := 11) (oi := { dst := some 58, op := Op.fieldAddr 26 (Operand.tmp 57) 1, type := 0, pos := "parse.go:27", after := #[{ on := 10, ground := Ground.data }, { on := 0, ground := Ground.phase }, { on := 1, ground := Ground.phase }, { on := 2, ground := Ground.phase }, { on := 3, ground := Ground.phase }, { on := 4, ground := Ground.phase }, { on := 5, ground := Ground.phase }, { on := 6, ground := Ground.phase }, { on := 7, ground := Ground.phase }, { on := 8, ground := Ground.phase }], guard := none }) (v := ?_) rfl (by kernel_rfl) (by kernel_rfl) (by kernel_rfl) (fun _ _ _ h => h) (Or.inl ⟨by rfl, ?_⟩) (by assumption) ?_
          rotate_left
          · (intro w hSw; (try dsimp only at hSw); go_simp); first | done | with_reducible rfl
          simp only [Act.put]
          refine wpAnyH_ready (rs := [12]) (by kernel_rfl) (by simp) ?_
          refine AllReadyH.cons rfl (fun K hK => ?_) ?_
          rotate_left
          · exact AllReadyH.nil
          go_simp
          go_wp2_with fail
          refine hK.out _ _ HO7.out (fun hHeld => ?_)
          clear hK K
          refine wpAnyH_done (by kernel_rfl) ?_ _
          clear hHeld
          go_wp2_with fail
          go_ret
          refine ⟨ret_bool (by rw [HT.out, Option.isSome_map]), fun r' hr' => ?_, HB7.out⟩
          rw [HT.out] at hr'
          obtain ⟨o2, hq2, rfl⟩ := Option.map_eq_some_iff.1 hr'
          have e : o = o2 := by rw [← HO.out, hq2]; rfl
          subst e
          exact ⟨_, _, _, _, ⟨HX7.out, HR7.out, fun l hl => HM.out.e l (by rw [Hhh.out]; exact hl), HK6.out⟩, by omega⟩
end Go.Proofs.YtocfbanbphhhbaaDoor
