/- WireReads: the law. -/
import Derived.Test.YtflinfmhmokfhaaURs
namespace Go.Proofs.Ytflinfmhmokfhaa
open Go.RowKit
def mkB (a b : Value) : Sem Value := Instr.makeSlice 22 a b
theorem mkB_eq (a b : Value) : Instr.makeSlice 22 a b = mkB a b := rfl
def cpB (a b : Value) : Sem Value := Builtin.copy_ #[22, 22] 3 #[a, b]
theorem cpB_eq (a b : Value) : Builtin.copy_ #[22, 22] 3 #[a, b] = cpB a b := rfl
attribute [local go_sem ↓] ldG_eq stG_eq ldK_eq stK_eq mkB_eq cpB_eq
attribute [local go_sem] GC_size KC_size to_GC to_KC fold_GC1 KC_s0 KC_s1
variable {n0 : Nat} {w W W' : World} {ao so lo : Option Addr} {n c sn sc ln lc : Nat} {Z : List Int} {P : List Ask}

/-- the copy and the asks in their places; below, all as it was -/
structure St (n0 : Nat) (w W : World) (so : Option Addr) (sn sc : Nat) (Z : List Int) : Prop where
  fc : FC W (n0 + 1) Z
  va : Var W n0 (.slice so sn sc) 23
  bel : Below n0 w W
  sz : n0 + 2 ≤ W.heap.size
theorem St.keep (h : St n0 w W so sn sc Z) (e1 : W'.os = W.os) (e2 : W'.tape = W.tape) (e3 : W'.output = W.output) (e4 : W.heap.size ≤ W'.heap.size) (hk : ∀ k, k < n0 + 2 → W'.heap[k]? = W.heap[k]?) : St n0 w W' so sn sc Z :=
  ⟨h.fc.of (hk _ (by omega)), (hk _ (by omega)).trans h.va, ⟨e1.trans h.bel.os, e2.trans h.bel.tape, e3.trans h.bel.output, Nat.le_trans h.bel.size e4, fun k hl => (hk k (by omega)).trans (h.bel.block k hl)⟩, Nat.le_trans h.sz e4⟩
theorem St.below (h : St n0 w W so sn sc Z) (b : Below W.heap.size W W') : St n0 w W' so sn sc Z := h.keep b.os b.tape b.output b.size (fun k hk => b.block k (by have := h.sz; omega))
theorem St.kl {a b : Nat} (h : St n0 w W so sn sc Z) (K : Kl W.heap.size W W' a b) (ha : n0 + 2 ≤ a) (hb : n0 + 2 ≤ b) : St n0 w W' so sn sc Z := h.keep K.os K.tape K.output K.size (fun k hk => K.block k (by have := h.sz; omega) (by omega) (by omega))
theorem St.kg {g : Nat} (h : St n0 w W so sn sc Z) (K : Kg W W' g) (hg : n0 + 2 ≤ g) : St n0 w W' so sn sc Z := h.keep K.os K.tape K.output K.size (fun k hk => K.block k (by have := h.sz; omega) (by omega))
theorem St.set {g : Nat} {v : Value} (h : St n0 w W so sn sc Z) (hg : n0 + 2 ≤ g) : St n0 w (W.setCell ⟨g, 0, none⟩ v) so sn sc Z :=
  h.keep (setCell_os _ _ _) (setCell_tape _ _ _) (setCell_output _ _ _) (by rw [set_size]; exact Nat.le_refl _) (fun k hk => set_other W g 0 k _ (by omega))
theorem rdT_len : ∀ (P : List Ask) (Z : List Int), (rdT P Z).1.length ≤ P.length
  | [], Z => Nat.le_refl _
  | s :: P, Z => by
    by_cases h : aE Z s.kind s.n = 0
    · rw [rdT_ok h]
      have := rdT_len P (Z.drop (aK Z s.kind))
      simp only [List.length_cons]
      omega
    · rw [rdT_bad h]
      exact Nat.zero_le _
theorem n9 (n m : Nat) (h : n + 9 = m) (hn : n ≤ 1048576) : wrap64 ((n : Int) + 9) = (m : Int) := by rw [w64 (by omega) (by omega)]; omega
theorem src_lit (w : World) : Src (w.alloc (.cells #[.int .u8 2, .int .u8 5, .int .u8 6] 5)) (some ⟨w.heap.size, 0, none⟩) 3 3 [2, 5, 6] := by
  refine ⟨rfl, fun h => (by cases h), fun ad ha t ht => ?_, ?_⟩
  · obtain rfl := Option.some.inj ha
    have h := heap_alloc_new w (.cells #[.int .u8 2, .int .u8 5, .int .u8 6] 5)
    rw [Addr.add_lit, Nat.zero_add]
    simp only [World.cell?, h]
    match t, ht with
    | 0, _ => rfl
    | 1, _ => rfl
    | 2, _ => rfl
  · intro t
    match t with
    | 0 => decide
    | 1 => decide
    | 2 => decide
    | t + 3 => simp
set_option maxRecDepth 100000 in
set_option maxHeartbeats 4000000 in
theorem wireReads_any (ao : Option Addr) (n c : Nat) (Z : List Int) (so : Option Addr) (sn sc : Nat) (P : List Ask) (w : World) (S : Src w ao n c Z) (hcap : n ≤ c) (hn : n ≤ 1048576) (Q : KSrc w so sn sc P) (hs : sn ≤ 1048576) :
    Calls Try.prog 3 #[.slice ao n c, .slice so sn sc] w fun r w' => r = .returned (.bool true) ∧ Below w.heap.size w w' := by
  have hmf : ∀ (fn : Fn) (first cap : Array Value) (w : World), (Instr.makeFunc fn first cap).run Try.prog w = .ok (.func fn first cap) w := fun _ _ _ _ => rfl
  have HS := hide S
  have HQ := hide Q
  have HN : Hid (n ≤ 1048576 ∧ sn ≤ 1048576 ∧ n ≤ c ∧ Z.length = n) := ⟨hn, hs, hcap, S.1⟩
  obtain ⟨n0, hn0⟩ : ∃ n0, w.heap.size = n0 := ⟨_, rfl⟩
  obtain ⟨m, hm⟩ : ∃ m, n + 9 = m := ⟨_, rfl⟩
  have HM : Hid (n + 9 = m) := hm
  have h9 := n9 n m hm hn
  obtain ⟨w1, hw1⟩ : ∃ w1, w.alloc (.cells #[.slice so sn sc] 23) = w1 := ⟨_, rfl⟩
  have b1 := below_new w (.cells #[.slice so sn sc] 23)
  have V1 : Var (w.alloc (.cells #[.slice so sn sc] 23)) w.heap.size (.slice so sn sc) 23 := heap_alloc_new w _
  have z1 := World.size_alloc w (.cells #[.slice so sn sc] 23)
  rw [hw1] at b1 V1 z1
  rw [hn0] at b1 V1 z1
  obtain ⟨w2, hmk0, D2, b2, z2⟩ := make9 w1 n m hm (by omega)
  have hmk : (mkB (.int .i64 (m : Int)) (.int .i64 (m : Int))).run Try.prog w1 = .ok (.slice (some ⟨w1.heap.size, 0, none⟩) m m) w2 := hmk0
  rw [z1] at hmk D2 b2 z2
  have hb2 : Below n0 w w2 := b1.trans (b2.mono (by omega))
  obtain ⟨w3, hcp0, F3, k3, z3, o1, o2, o3⟩ := copy9 w2 (n0 + 1) n m c ao Z hm (S.below (hn0 ▸ hb2)) D2
  have hcp : (cpB (.slice (some ⟨n0 + 1, 0, none⟩) m m) (.slice ao n c)).run Try.prog w2 = .ok (goInt n) w3 := hcp0
  have T3 : St n0 w w3 so sn sc Z := ⟨F3, (k3 _ (by omega)).trans ((b2.block _ (by omega)).trans V1), ⟨o1.trans hb2.os, o2.trans hb2.tape, o3.trans hb2.output, by omega, fun k hk => (k3 k (by omega)).trans (hb2.block k hk)⟩, by omega⟩
  have z3' : w3.heap.size = n0 + 2 := by omega
  obtain ⟨w4, hw4⟩ : ∃ w4, w3.alloc (.cells #[.slice none 0 0] 24) = w4 := ⟨_, rfl⟩
  have b4 := below_new w3 (.cells #[.slice none 0 0] 24)
  have V4 : Var (w3.alloc (.cells #[.slice none 0 0] 24)) w3.heap.size (.slice none 0 0) 24 := heap_alloc_new w3 _
  have z4 := World.size_alloc w3 (.cells #[.slice none 0 0] 24)
  rw [hw4] at b4 V4 z4
  have T4 := T3.below b4
  rw [z3'] at V4 z4
  have z4' : w4.heap.size = n0 + 3 := z4
  clear z4
  obtain ⟨w5, hw5⟩ : ∃ w5, w4.alloc (.cells #[.pointer none] 25) = w5 := ⟨_, rfl⟩
  have b5 := below_new w4 (.cells #[.pointer none] 25)
  have V5 : Var (w4.alloc (.cells #[.pointer none] 25)) w4.heap.size (.pointer none) 25 := heap_alloc_new w4 _
  have z5 := World.size_alloc w4 (.cells #[.pointer none] 25)
  rw [hw5] at b5 V5 z5
  have T5 := T4.below b5
  have V4' : Var w5 (n0 + 2) (.slice none 0 0) 24 := (b5.block _ (by omega)).trans V4
  rw [z4'] at V5 z5
  have z5' : w5.heap.size = n0 + 4 := z5
  clear z5
  have b6 := below_new w5 (.cells #[.int .u8 2, .int .u8 5, .int .u8 6] 5)
  have s6 := src_lit w5
  have z6 := World.size_alloc w5 (.cells #[.int .u8 2, .int .u8 5, .int .u8 6] 5)
  obtain ⟨w6, hw6⟩ : ∃ w6, w5.alloc (.cells #[.int .u8 2, .int .u8 5, .int .u8 6] 5) = w6 := ⟨_, rfl⟩
  rw [hw6] at b6 s6 z6
  have T6 := T5.below b6
  have V6 : Var w6 (n0 + 2) (.slice none 0 0) 24 := (b6.block _ (by omega)).trans V4'
  have K6 : Var w6 (n0 + 3) (.pointer none) 25 := (b6.block _ (by omega)).trans V5
  rw [z5'] at s6 z6
  have z6' : w6.heap.size = n0 + 5 := z6
  have HR1 := hide (rd1_any w6 (n0 + 2) V6 _ 3 s6 (by decide) (fun k e => by have h : n0 + 4 = k := Option.some.inj e; omega))
  have HT6 := hide (And.intro T6 (And.intro K6 z6'))
  clear S Q hn hs hcap V1 b1 hmk0 D2 b2 hb2 hcp0 F3 k3 z3 o1 o2 o3 T3 b4 V4 T4 b5 V5 T5 V4' b6 s6 T6 V6 K6 z6 z6' hm
  go_enter Try.func3, Try.ntmps3
  go_wp2_with fail
  refine HR1.out.mono ?_
  rintro r w7 ⟨rfl, K7, lo7, lc7, V7, G7⟩
  obtain ⟨b7, rfl, A7⟩ := G7.at 0 (by decide)
  have hc7 : w7.cell? ⟨b7, 0, none⟩ = some (.int .i64 2) := A7.c0
  have x7 := V7.c
  have hz7 := K7.size
  have T7 := HT6.out.1.kl K7 (by omega) (by omega)
  have P7 : Var w7 (n0 + 3) (.pointer none) 25 := (K7.block _ (by have := HT6.out.2.2; omega) (by omega) (by omega)).trans HT6.out.2.1
  have HT7 : Hid (St n0 w w7 so sn sc Z ∧ Var w7 (n0 + 3) (.pointer none) 25 ∧ Var w7 (n0 + 2) (.slice (some ⟨b7, 0, none⟩) 1 lc7) 24) := ⟨T7, P7, V7⟩
  have HE0 := hide (readN_any none 0 0 w7)
  clear HR1 K7 V7 G7 A7 hz7 T7 P7 HT6
  clear hw1 z1 z2 hmk hcp z3' hw4 z4' hw5 z5' hw6 h9
  go_wp2_with fail
  refine HE0.out.mono ?_
  rintro r w8 ⟨rfl, b8⟩
  rw [show endA 0 = 0 from rfl]
  obtain ⟨T7, P7, V7⟩ := HT7.out
  have b9 := b8.trans ((below_new w8 (.cells #[.int .u8 1] 5)).mono b8.size)
  have HT9 : Hid (St n0 w (w8.alloc (.cells #[.int .u8 1] 5)) so sn sc Z ∧ Var (w8.alloc (.cells #[.int .u8 1] 5)) (n0 + 3) (.pointer none) 25 ∧ Var (w8.alloc (.cells #[.int .u8 1] 5)) (n0 + 2) (.slice (some ⟨b7, 0, none⟩) 1 lc7) 24) := ⟨T7.below b9, (b9.block _ P7.lt).trans P7, (b9.block _ V7.lt).trans V7⟩
  clear b8 b9 T7 P7 V7 HT7 HE0 hc7 x7
  obtain ⟨w9, hw9⟩ : ∃ w9, w8.alloc (.cells #[.int .u8 1] 5) = w9 := ⟨_, rfl⟩
  rw [hw9] at HT9
  have HE1 := hide (readN_any (some ⟨w8.heap.size, 0, none⟩) 1 1 w9)
  go_wp2_with fail
  refine HE1.out.mono ?_
  rintro r wa ⟨rfl, ba⟩
  rw [show endA 1 = 52 from rfl]
  obtain ⟨T9, P9, V9⟩ := HT9.out
  have Ta := T9.below ba
  have Pa : Var wa (n0 + 3) (.pointer none) 25 := (ba.block _ P9.lt).trans P9
  have Va : Var wa (n0 + 2) (.slice (some ⟨b7, 0, none⟩) 1 lc7) 24 := (ba.block _ V9.lt).trans V9
  have xa := Va.c
  have ya := Va.z
  have Tb := Ta.set (g := n0 + 2) (v := .slice none 0 0) (Nat.le_refl _)
  have Vb : Var (wa.setCell ⟨n0 + 2, 0, none⟩ (.slice none 0 0)) (n0 + 2) (.slice none 0 0) 24 := set_heap wa (n0 + 2) _ _ _ 0 (.slice none 0 0) Va
  have Pb : Var (wa.setCell ⟨n0 + 2, 0, none⟩ (.slice none 0 0)) (n0 + 3) (.pointer none) 25 := (set_other wa (n0 + 2) 0 (n0 + 3) _ (by omega)).trans Pa
  obtain ⟨wb, hwb⟩ : ∃ wb, wa.setCell ⟨n0 + 2, 0, none⟩ (.slice none 0 0) = wb := ⟨_, rfl⟩
  rw [hwb] at Tb Vb Pb
  have hQb := HQ.out.below (hn0 ▸ Tb.bel)
  have hnm : n ≤ m := by have := HM.out; omega
  have HR2 := hide (rd2_any (P := P) wb n0 (n0 + 2) (n0 + 3) Vb Pb Tb.va (Tb.fc.src HS.out.2.2.2 HN.out.2.2.2 m) hnm (by have := HN.out; omega) hQb (by have := HN.out; omega) ⟨by omega, by omega, by omega⟩ (fun _ k e => by have h : n0 + 1 = k := Option.some.inj e; omega) (fun h0 k e => by have h := k_lt HQ.out h0 k e; omega))
  have HTb := hide Tb
  clear HE1 ba T9 P9 V9 HT9 Ta Pa Va Tb Vb Pb hQb hw9
  go_wp2_with fail
  refine HR2.out.mono ?_
  rintro r wc ⟨rfl, Kc, ⟨lo, ln, lc, Vc, Gc⟩, g, gave, Pc, Rc, hg⟩
  have Tc := HTb.out.kl Kc (by omega) (by omega)
  have hgs : n0 + 2 ≤ g := by have := HTb.out.sz; omega
  have HG : Hid (n0 + 2 ≤ g) := hgs
  have xc := Tc.va.c
  have HTc := hide (And.intro Tc (And.intro Vc (And.intro Gc (And.intro Pc Rc))))
  have HRr := hide (refReadA_any ao n c Z so sn sc P wc (HS.out.below (hn0 ▸ Tc.bel)) HN.out.2.2.1 (by have := HN.out; omega) (HQ.out.below (hn0 ▸ Tc.bel)) (by have := HN.out; omega))
  clear HR2 Kc Vc Gc Pc Rc hg Tc hgs HTb xa ya hwb hnm
  go_wp2_with fail
  refine HRr.out.mono ?_
  rintro r wd ⟨lo2, ln2, lc2, rfl, F2⟩
  obtain ⟨Tc, Vc, Gc, Pc, Rc⟩ := HTc.out
  have bd := F2.bel
  have Td := Tc.below bd
  have Vd : Var wd (n0 + 2) (.slice lo ln lc) 24 := (bd.block _ Vc.lt).trans Vc
  have Gd := Gc.below bd
  have Pd : Var wd (n0 + 3) (ptr g) 25 := (bd.block _ Pc.lt).trans Pc
  have Rd : Rdr wd g none 0 0 gave true := (bd.block _ Rc.lt).trans Rc
  have hl1 := Gd.len
  have hl2 := F2.qr.len
  rw [hl1] at hl2
  subst hl2
  have hll : ln ≤ 2000000 := by rw [← hl1]; have h1 := rdT_len P Z; have h2 := HQ.out.len; have h3 := HN.out; omega
  have HAl := hide (alike_any lo lo2 ln lc lc2 _ wd Gd.src F2.qr.src hll)
  have xd := Vd.c
  have HTd := hide (And.intro Td (And.intro Pd Rd))
  obtain ⟨ee, hee⟩ : ∃ ee, rtE P Z = ee := ⟨_, rfl⟩
  rw [hee]
  clear hee hl1 hll Tc Vc Gc Pc Rc bd Td Vd Gd Pd Rd F2 HTc HRr xc
  go_wp2_with fail
  refine HAl.out.mono ?_
  rintro r we ⟨rfl, be⟩
  obtain ⟨Td, Pd, Rd⟩ := HTd.out
  have Te := Td.below be
  have Pe : Var we (n0 + 3) (ptr g) 25 := (be.block _ Pd.lt).trans Pd
  have Re : Rdr we g none 0 0 gave true := (be.block _ Rd.lt).trans Rd
  have xe := Pe.c
  have HTe := hide Te
  have HOv := hide (over_any Re)
  clear be Td Pd Rd Te Pe Re HTd HAl xd
  go_wp2_with fail
  refine HOv.out.mono ?_
  rintro r wf ⟨rfl, Kf⟩
  have HTf := hide (HTe.out.kg Kf HG.out)
  clear Kf HOv HTe xe
  go_wp2_with fail
  go_loopw [11] (fun i wr => ∃ k : Nat, k ≤ m ∧ i = .int .i64 k ∧ Hid (Below wf.heap.size wf wr)) (fun i _ => m - (intOf i).toNat)
  case atStart => exact ⟨0, Nat.zero_le _, rfl, Below.refl _ _⟩
  case round =>
    obtain ⟨k, hk, rfl, HBk⟩ := hrel
    by_cases hlt : k < m
    · have HLT := hide hlt
      have HK1 : Hid (wrap64 ((k : Int) + 1) = ((k + 1 : Nat) : Int)) := by show _ = _; have := HN.out; have := HM.out; rw [w64 (by omega) (by omega)]; rfl
      have hki : (k : Int) < (m : Int) := by omega
      have HTk := hide (HTf.out.below HBk.out)
      have HBx : Hid (Below wf.heap.size wf wr.drew) := HBk.out.trans ((below_drew1 wr).mono HBk.out.size)
      have c1 := (HTk.out.below (below_drew1 wr)).fc.at k (by have := HM.out; have := HN.out; omega)
      by_cases hkn : k < n
      · have hkn2 : (k : Int) < (n : Int) := by omega
        have hkn3 : decide (n ≤ k) = false := by rw [decide_eq_false_iff_not]; omega
        obtain ⟨ad, rfl⟩ : ∃ ad, ao = some ad := by
          cases ao with
          | none => have := (HS.out.2.1 rfl).1; omega
          | some ad => exact ⟨ad, rfl⟩
        have c2 := (HS.out.below (hn0 ▸ (HTk.out.below (below_drew1 wr)).bel)).2.2.1 ad rfl k hkn
        obtain ⟨x, hx⟩ : ∃ x, Z.getD k 0 = x := ⟨_, rfl⟩
        rw [hx] at c2
        rw [List.getD_eq_getElem?_getD, List.getElem?_append_left (by have := HN.out; omega), ← List.getD_eq_getElem?_getD, hx] at c1
        clear hlt hkn hx hk
        go_wp2_with fail
        refine wp_region_held_drew (S := fun W => W.cell? ⟨n0 + 1, k, none⟩ = some (.int .u8 x) ∧ W.cell? (ad.add k) = some (.int .u8 x)) (by kernel_rfl) (⟨c1, c2⟩) (fun hHeld => ?_)
        refine wpAnyH_take (i := 0) (oi := { dst := some 81, op := Op.move (Operand.tmp 11), type := 3, pos := "law.go:153", after := #[], guard := none }) (v := ?_) rfl (by kernel_rfl) (by kernel_rfl) (by kernel_rfl) (fun _ _ _ h => h) (Or.inl ⟨by rfl, ?_⟩) (by assumption) ?_
        rotate_left
        · (intro w hSw; (try dsimp only at hSw); go_simp); first | done | with_reducible rfl
        simp only [Act.put, List.setIfInBounds_toArray, List.set_cons_zero, List.set_cons_succ]
        refine wpAnyH_take (i := 1) (oi := { dst := some 82, op := Op.move (Operand.tmp 0), type := 22, pos := "law.go:153", after := #[], guard := none }) (v := ?_) rfl (by kernel_rfl) (by kernel_rfl) (by kernel_rfl) (fun _ _ _ h => h) (Or.inl ⟨by rfl, ?_⟩) (by assumption) ?_
        rotate_left
        · (intro w hSw; (try dsimp only at hSw); go_simp); first | done | with_reducible rfl
        simp only [Act.put, List.setIfInBounds_toArray, List.set_cons_zero, List.set_cons_succ]
        refine wpAnyH_take (i := 2) (oi := { dst := some 83, op := Op.call { callee := Callee.builtin Builtin.len, args := #[Operand.tmp 82], argTypes := #[22] }, type := 3, pos := "law.go:153", after := #[{ on := 1, ground := Ground.data }], guard := none }) (v := ?_) rfl (by kernel_rfl) (by kernel_rfl) (by kernel_rfl) (fun _ _ _ h => h) (Or.inl ⟨by rfl, ?_⟩) (by assumption) ?_
        rotate_left
        · (intro w hSw; (try dsimp only at hSw); go_simp); first | done | with_reducible rfl
        simp only [Act.put, List.setIfInBounds_toArray, List.set_cons_zero, List.set_cons_succ]
        refine wpAnyH_take (i := 3) (oi := { dst := some 84, op := Op.binOp BinOp.lss 3 (Operand.tmp 81) (Operand.tmp 83) 3, type := 4, pos := "law.go:153", after := #[{ on := 0, ground := Ground.data }, { on := 2, ground := Ground.data }], guard := none }) (v := ?_) rfl (by kernel_rfl) (by kernel_rfl) (by kernel_rfl) (fun _ _ _ h => h) (Or.inl ⟨by rfl, ?_⟩) (by assumption) ?_
        rotate_left
        · (intro w hSw; (try dsimp only at hSw); go_simp); first | done | with_reducible rfl
        simp only [Act.put, List.setIfInBounds_toArray, List.set_cons_zero, List.set_cons_succ]
        refine wpAnyH_take (i := 4) (oi := { dst := some 85, op := Op.move (Operand.tmp 84), type := 4, pos := "law.go:153", after := #[{ on := 3, ground := Ground.data }], guard := none }) (v := ?_) rfl (by kernel_rfl) (by kernel_rfl) (by kernel_rfl) (fun _ _ _ h => h) (Or.inl ⟨by rfl, ?_⟩) (by assumption) ?_
        rotate_left
        · (intro w hSw; (try dsimp only at hSw); go_simp); first | done | with_reducible rfl
        simp only [Act.put, List.setIfInBounds_toArray, List.set_cons_zero, List.set_cons_succ]
        refine wpAnyH_take (i := 5) (oi := { dst := some 86, op := Op.move (Operand.tmp 5), type := 22, pos := "law.go:153", after := #[{ on := 4, ground := Ground.guard }], guard := some (4, true) }) (v := ?_) rfl (by kernel_rfl) (by kernel_rfl) (by kernel_rfl) (fun _ _ _ h => h) (Or.inl ⟨by rfl, ?_⟩) (by assumption) ?_
        rotate_left
        · (intro w hSw; (try dsimp only at hSw); go_simp); first | done | with_reducible rfl
        simp only [Act.put, List.setIfInBounds_toArray, List.set_cons_zero, List.set_cons_succ]
        refine wpAnyH_take (i := 6) (oi := { dst := some 87, op := Op.move (Operand.tmp 11), type := 3, pos := "law.go:153", after := #[{ on := 4, ground := Ground.guard }], guard := some (4, true) }) (v := ?_) rfl (by kernel_rfl) (by kernel_rfl) (by kernel_rfl) (fun _ _ _ h => h) (Or.inl ⟨by rfl, ?_⟩) (by assumption) ?_
        rotate_left
        · (intro w hSw; (try dsimp only at hSw); go_simp); first | done | with_reducible rfl
        simp only [Act.put, List.setIfInBounds_toArray, List.set_cons_zero, List.set_cons_succ]
        refine wpAnyH_take (i := 7) (oi := { dst := some 88, op := Op.indexAddr 22 (Operand.tmp 86) (Operand.tmp 87), type := 0, pos := "law.go:153", after := #[{ on := 5, ground := Ground.data }, { on := 6, ground := Ground.data }, { on := 4, ground := Ground.guard }], guard := some (4, true) }) (v := ?_) rfl (by kernel_rfl) (by kernel_rfl) (by kernel_rfl) (fun _ _ _ h => h) (Or.inl ⟨by rfl, ?_⟩) (by assumption) ?_
        rotate_left
        · (intro w hSw; (try dsimp only at hSw); go_simp); first | done | with_reducible rfl
        simp only [Act.put, List.setIfInBounds_toArray, List.set_cons_zero, List.set_cons_succ]
        refine wpAnyH_take (i := 8) (oi := { dst := some 89, op := Op.load 5 (Operand.tmp 88), type := 5, pos := "law.go:153", after := #[{ on := 7, ground := Ground.data }, { on := 4, ground := Ground.guard }], guard := some (4, true) }) (v := ?_) rfl (by kernel_rfl) (by kernel_rfl) (by kernel_rfl) (fun _ _ _ h => h) (Or.inl ⟨by rfl, ?_⟩) (by assumption) ?_
        rotate_left
        · (intro w hSw; (try dsimp only at hSw); have h3 := hSw.1; go_simp); first | done | with_reducible rfl
        simp only [Act.put, List.setIfInBounds_toArray, List.set_cons_zero, List.set_cons_succ]
        refine wpAnyH_take (i := 9) (oi := { dst := some 90, op := Op.move (Operand.tmp 0), type := 22, pos := "law.go:153", after := #[{ on := 4, ground := Ground.guard }], guard := some (4, true) }) (v := ?_) rfl (by kernel_rfl) (by kernel_rfl) (by kernel_rfl) (fun _ _ _ h => h) (Or.inl ⟨by rfl, ?_⟩) (by assumption) ?_
        rotate_left
        · (intro w hSw; (try dsimp only at hSw); go_simp); first | done | with_reducible rfl
        simp only [Act.put, List.setIfInBounds_toArray, List.set_cons_zero, List.set_cons_succ]
        refine wpAnyH_take (i := 10) (oi := { dst := some 91, op := Op.move (Operand.tmp 11), type := 3, pos := "law.go:153", after := #[{ on := 4, ground := Ground.guard }], guard := some (4, true) }) (v := ?_) rfl (by kernel_rfl) (by kernel_rfl) (by kernel_rfl) (fun _ _ _ h => h) (Or.inl ⟨by rfl, ?_⟩) (by assumption) ?_
        rotate_left
        · (intro w hSw; (try dsimp only at hSw); go_simp); first | done | with_reducible rfl
        simp only [Act.put, List.setIfInBounds_toArray, List.set_cons_zero, List.set_cons_succ]
        refine wpAnyH_take (i := 11) (oi := { dst := some 92, op := Op.indexAddr 22 (Operand.tmp 90) (Operand.tmp 91), type := 0, pos := "law.go:153", after := #[{ on := 9, ground := Ground.data }, { on := 10, ground := Ground.data }, { on := 4, ground := Ground.guard }], guard := some (4, true) }) (v := ?_) rfl (by kernel_rfl) (by kernel_rfl) (by kernel_rfl) (fun _ _ _ h => h) (Or.inl ⟨by rfl, ?_⟩) (by assumption) ?_
        rotate_left
        · (intro w hSw; (try dsimp only at hSw); go_simp); first | done | with_reducible rfl
        simp only [Act.put, List.setIfInBounds_toArray, List.set_cons_zero, List.set_cons_succ]
        refine wpAnyH_take (i := 12) (oi := { dst := some 93, op := Op.load 5 (Operand.tmp 92), type := 5, pos := "law.go:153", after := #[{ on := 11, ground := Ground.data }, { on := 4, ground := Ground.guard }], guard := some (4, true) }) (v := ?_) rfl (by kernel_rfl) (by kernel_rfl) (by kernel_rfl) (fun _ _ _ h => h) (Or.inl ⟨by rfl, ?_⟩) (by assumption) ?_
        rotate_left
        · (intro w hSw; (try dsimp only at hSw); have h3 := hSw.2; go_simp); first | done | with_reducible rfl
        simp only [Act.put, List.setIfInBounds_toArray, List.set_cons_zero, List.set_cons_succ]
        refine wpAnyH_take (i := 13) (oi := { dst := some 94, op := Op.binOp BinOp.neq 5 (Operand.tmp 89) (Operand.tmp 93) 5, type := 4, pos := "law.go:153", after := #[{ on := 8, ground := Ground.data }, { on := 12, ground := Ground.data }, { on := 4, ground := Ground.guard }], guard := some (4, true) }) (v := ?_) rfl (by kernel_rfl) (by kernel_rfl) (by kernel_rfl) (fun _ _ _ h => h) (Or.inl ⟨by rfl, ?_⟩) (by assumption) ?_
        rotate_left
        · (intro w hSw; (try dsimp only at hSw); go_simp); first | done | with_reducible rfl
        simp only [Act.put, List.setIfInBounds_toArray, List.set_cons_zero, List.set_cons_succ]
        refine wpAnyH_take (i := 14) (oi := { dst := some 95, op := Op.pick (Operand.tmp 85) (Operand.tmp 94) (Operand.const (Value.bool false)), type := 4, pos := "law.go:153", after := #[{ on := 4, ground := Ground.data }, { on := 13, ground := Ground.data }], guard := none }) (v := ?_) rfl (by kernel_rfl) (by kernel_rfl) (by kernel_rfl) (fun _ _ _ h => h) (Or.inl ⟨by rfl, ?_⟩) (by assumption) ?_
        rotate_left
        · (intro w hSw; (try dsimp only at hSw); go_simp); first | done | with_reducible rfl
        simp only [Act.put, List.setIfInBounds_toArray, List.set_cons_zero, List.set_cons_succ]
        refine wpAnyH_take (i := 15) (oi := { dst := some 96, op := Op.move (Operand.tmp 95), type := 4, pos := "law.go:153", after := #[{ on := 14, ground := Ground.data }, { on := 4, ground := Ground.chain }], guard := none }) (v := ?_) rfl (by kernel_rfl) (by kernel_rfl) (by kernel_rfl) (fun _ _ _ h => h) (Or.inl ⟨by rfl, ?_⟩) (by assumption) ?_
        rotate_left
        · (intro w hSw; (try dsimp only at hSw); go_simp); first | done | with_reducible rfl
        simp only [Act.put, List.setIfInBounds_toArray, List.set_cons_zero, List.set_cons_succ]
        refine wpAnyH_take (i := 16) (oi := { dst := some 97, op := Op.move (Operand.tmp 11), type := 3, pos := "law.go:153", after := #[{ on := 15, ground := Ground.guard }], guard := some (15, false) }) (v := ?_) rfl (by kernel_rfl) (by kernel_rfl) (by kernel_rfl) (fun _ _ _ h => h) (Or.inl ⟨by rfl, ?_⟩) (by assumption) ?_
        rotate_left
        · (intro w hSw; (try dsimp only at hSw); go_simp); first | done | with_reducible rfl
        simp only [Act.put, List.setIfInBounds_toArray, List.set_cons_zero, List.set_cons_succ]
        refine wpAnyH_take (i := 17) (oi := { dst := some 98, op := Op.move (Operand.tmp 0), type := 22, pos := "law.go:153", after := #[{ on := 15, ground := Ground.guard }], guard := some (15, false) }) (v := ?_) rfl (by kernel_rfl) (by kernel_rfl) (by kernel_rfl) (fun _ _ _ h => h) (Or.inl ⟨by rfl, ?_⟩) (by assumption) ?_
        rotate_left
        · (intro w hSw; (try dsimp only at hSw); go_simp); first | done | with_reducible rfl
        simp only [Act.put, List.setIfInBounds_toArray, List.set_cons_zero, List.set_cons_succ]
        refine wpAnyH_take (i := 18) (oi := { dst := some 99, op := Op.call { callee := Callee.builtin Builtin.len, args := #[Operand.tmp 98], argTypes := #[22] }, type := 3, pos := "law.go:153", after := #[{ on := 17, ground := Ground.data }, { on := 15, ground := Ground.guard }], guard := some (15, false) }) (v := ?_) rfl (by kernel_rfl) (by kernel_rfl) (by kernel_rfl) (fun _ _ _ h => h) (Or.inl ⟨by rfl, ?_⟩) (by assumption) ?_
        rotate_left
        · (intro w hSw; (try dsimp only at hSw); go_simp); first | done | with_reducible rfl
        simp only [Act.put, List.setIfInBounds_toArray, List.set_cons_zero, List.set_cons_succ]
        refine wpAnyH_take (i := 19) (oi := { dst := some 100, op := Op.binOp BinOp.geq 3 (Operand.tmp 97) (Operand.tmp 99) 3, type := 4, pos := "law.go:153", after := #[{ on := 16, ground := Ground.data }, { on := 18, ground := Ground.data }, { on := 15, ground := Ground.guard }], guard := some (15, false) }) (v := ?_) rfl (by kernel_rfl) (by kernel_rfl) (by kernel_rfl) (fun _ _ _ h => h) (Or.inl ⟨by rfl, ?_⟩) (by assumption) ?_
        rotate_left
        · (intro w hSw; (try dsimp only at hSw); go_simp); first | done | with_reducible rfl
        simp only [Act.put, List.setIfInBounds_toArray, List.set_cons_zero, List.set_cons_succ]
        refine wpAnyH_take (i := 20) (oi := { dst := some 101, op := Op.move (Operand.tmp 100), type := 4, pos := "law.go:153", after := #[{ on := 19, ground := Ground.data }, { on := 15, ground := Ground.chain }, { on := 15, ground := Ground.guard }], guard := some (15, false) }) (v := ?_) rfl (by kernel_rfl) (by kernel_rfl) (by kernel_rfl) (fun _ _ _ h => h) (Or.inl ⟨by rfl, ?_⟩) (by assumption) ?_
        rotate_left
        · (intro w hSw; (try dsimp only at hSw); go_simp); first | done | with_reducible rfl
        simp only [Act.put, List.setIfInBounds_toArray, List.set_cons_zero, List.set_cons_succ]
        refine wpAnyH_take (i := 21) (oi := { dst := some 102, op := Op.move (Operand.tmp 5), type := 22, pos := "law.go:153", after := #[{ on := 20, ground := Ground.guard }], guard := some (20, true) }) (v := undef) rfl (by kernel_rfl) (by kernel_rfl) (by kernel_rfl) (fun _ _ _ h => h) (Or.inr ⟨by rfl, by rfl⟩) (by assumption) ?_
        simp only [Act.put, List.setIfInBounds_toArray, List.set_cons_zero, List.set_cons_succ]
        refine wpAnyH_take (i := 22) (oi := { dst := some 103, op := Op.move (Operand.tmp 11), type := 3, pos := "law.go:153", after := #[{ on := 20, ground := Ground.guard }], guard := some (20, true) }) (v := undef) rfl (by kernel_rfl) (by kernel_rfl) (by kernel_rfl) (fun _ _ _ h => h) (Or.inr ⟨by rfl, by rfl⟩) (by assumption) ?_
        simp only [Act.put, List.setIfInBounds_toArray, List.set_cons_zero, List.set_cons_succ]
        refine wpAnyH_take (i := 23) (oi := { dst := some 104, op := Op.indexAddr 22 (Operand.tmp 102) (Operand.tmp 103), type := 0, pos := "law.go:153", after := #[{ on := 21, ground := Ground.data }, { on := 22, ground := Ground.data }, { on := 20, ground := Ground.guard }], guard := some (20, true) }) (v := undef) rfl (by kernel_rfl) (by kernel_rfl) (by kernel_rfl) (fun _ _ _ h => h) (Or.inr ⟨by rfl, by rfl⟩) (by assumption) ?_
        simp only [Act.put, List.setIfInBounds_toArray, List.set_cons_zero, List.set_cons_succ]
        refine wpAnyH_take (i := 24) (oi := { dst := some 105, op := Op.load 5 (Operand.tmp 104), type := 5, pos := "law.go:153", after := #[{ on := 23, ground := Ground.data }, { on := 20, ground := Ground.guard }], guard := some (20, true) }) (v := undef) rfl (by kernel_rfl) (by kernel_rfl) (by kernel_rfl) (fun _ _ _ h => h) (Or.inr ⟨by rfl, by rfl⟩) (by assumption) ?_
        simp only [Act.put, List.setIfInBounds_toArray, List.set_cons_zero, List.set_cons_succ]
        refine wpAnyH_take (i := 25) (oi := { dst := some 106, op := Op.binOp BinOp.neq 5 (Operand.tmp 105) (Operand.const (Value.int IntKind.u8 0)) 5, type := 4, pos := "law.go:153", after := #[{ on := 24, ground := Ground.data }, { on := 20, ground := Ground.guard }], guard := some (20, true) }) (v := undef) rfl (by kernel_rfl) (by kernel_rfl) (by kernel_rfl) (fun _ _ _ h => h) (Or.inr ⟨by rfl, by rfl⟩) (by assumption) ?_
        simp only [Act.put, List.setIfInBounds_toArray, List.set_cons_zero, List.set_cons_succ]
        refine wpAnyH_take (i := 26) (oi := { dst := some 107, op := Op.pick (Operand.tmp 101) (Operand.tmp 106) (Operand.const (Value.bool false)), type := 4, pos := "law.go:153", after := #[{ on := 20, ground := Ground.data }, { on := 25, ground := Ground.data }, { on := 15, ground := Ground.guard }], guard := some (15, false) }) (v := ?_) rfl (by kernel_rfl) (by kernel_rfl) (by kernel_rfl) (fun _ _ _ h => h) (Or.inl ⟨by rfl, ?_⟩) (by assumption) ?_
        rotate_left
        · (intro w hSw; (try dsimp only at hSw); go_simp); first | done | with_reducible rfl
        simp only [Act.put, List.setIfInBounds_toArray, List.set_cons_zero, List.set_cons_succ]
        refine wpAnyH_take (i := 27) (oi := { dst := some 108, op := Op.pick (Operand.tmp 96) (Operand.const (Value.bool true)) (Operand.tmp 107), type := 4, pos := "law.go:153", after := #[{ on := 15, ground := Ground.data }, { on := 26, ground := Ground.data }], guard := none }) (v := ?_) rfl (by kernel_rfl) (by kernel_rfl) (by kernel_rfl) (fun _ _ _ h => h) (Or.inl ⟨by rfl, ?_⟩) (by assumption) ?_
        rotate_left
        · (intro w hSw; (try dsimp only at hSw); go_simp); first | done | with_reducible rfl
        simp only [Act.put, List.setIfInBounds_toArray, List.set_cons_zero, List.set_cons_succ]
        refine wpAnyH_done (by kernel_rfl) ?_ _
        clear hHeld
        go_wp2_with fail
        go_roundw
        case rel => exact ⟨k + 1, HLT.out, (by rw [HK1.out]), HBx⟩
        case measure => rw [HK1.out]; have := HLT.out; simp [intOf]; omega
      · have hkn2 : decide (k < n) = false := by rw [decide_eq_false_iff_not]; omega
        have hkn3 : (n : Int) ≤ (k : Int) := by omega
        rw [List.getD_eq_getElem?_getD, List.getElem?_append_right (by have := HN.out; omega), List.getElem?_replicate, if_pos (by have := HN.out; have := HM.out; omega)] at c1
        simp only [Option.getD_some] at c1
        clear hlt hkn hk
        go_wp2_with fail
        refine wp_region_held_drew (S := fun W => W.cell? ⟨n0 + 1, k, none⟩ = some (.int .u8 0)) (by kernel_rfl) (c1) (fun hHeld => ?_)
        refine wpAnyH_take (i := 0) (oi := { dst := some 81, op := Op.move (Operand.tmp 11), type := 3, pos := "law.go:153", after := #[], guard := none }) (v := ?_) rfl (by kernel_rfl) (by kernel_rfl) (by kernel_rfl) (fun _ _ _ h => h) (Or.inl ⟨by rfl, ?_⟩) (by assumption) ?_
        rotate_left
        · (intro w hSw; (try dsimp only at hSw); go_simp); first | done | with_reducible rfl
        simp only [Act.put, List.setIfInBounds_toArray, List.set_cons_zero, List.set_cons_succ]
        refine wpAnyH_take (i := 1) (oi := { dst := some 82, op := Op.move (Operand.tmp 0), type := 22, pos := "law.go:153", after := #[], guard := none }) (v := ?_) rfl (by kernel_rfl) (by kernel_rfl) (by kernel_rfl) (fun _ _ _ h => h) (Or.inl ⟨by rfl, ?_⟩) (by assumption) ?_
        rotate_left
        · (intro w hSw; (try dsimp only at hSw); go_simp); first | done | with_reducible rfl
        simp only [Act.put, List.setIfInBounds_toArray, List.set_cons_zero, List.set_cons_succ]
        refine wpAnyH_take (i := 2) (oi := { dst := some 83, op := Op.call { callee := Callee.builtin Builtin.len, args := #[Operand.tmp 82], argTypes := #[22] }, type := 3, pos := "law.go:153", after := #[{ on := 1, ground := Ground.data }], guard := none }) (v := ?_) rfl (by kernel_rfl) (by kernel_rfl) (by kernel_rfl) (fun _ _ _ h => h) (Or.inl ⟨by rfl, ?_⟩) (by assumption) ?_
        rotate_left
        · (intro w hSw; (try dsimp only at hSw); go_simp); first | done | with_reducible rfl
        simp only [Act.put, List.setIfInBounds_toArray, List.set_cons_zero, List.set_cons_succ]
        refine wpAnyH_take (i := 3) (oi := { dst := some 84, op := Op.binOp BinOp.lss 3 (Operand.tmp 81) (Operand.tmp 83) 3, type := 4, pos := "law.go:153", after := #[{ on := 0, ground := Ground.data }, { on := 2, ground := Ground.data }], guard := none }) (v := ?_) rfl (by kernel_rfl) (by kernel_rfl) (by kernel_rfl) (fun _ _ _ h => h) (Or.inl ⟨by rfl, ?_⟩) (by assumption) ?_
        rotate_left
        · (intro w hSw; (try dsimp only at hSw); go_simp); first | done | with_reducible rfl
        simp only [Act.put, List.setIfInBounds_toArray, List.set_cons_zero, List.set_cons_succ]
        refine wpAnyH_take (i := 4) (oi := { dst := some 85, op := Op.move (Operand.tmp 84), type := 4, pos := "law.go:153", after := #[{ on := 3, ground := Ground.data }], guard := none }) (v := ?_) rfl (by kernel_rfl) (by kernel_rfl) (by kernel_rfl) (fun _ _ _ h => h) (Or.inl ⟨by rfl, ?_⟩) (by assumption) ?_
        rotate_left
        · (intro w hSw; (try dsimp only at hSw); go_simp); first | done | with_reducible rfl
        simp only [Act.put, List.setIfInBounds_toArray, List.set_cons_zero, List.set_cons_succ]
        refine wpAnyH_take (i := 5) (oi := { dst := some 86, op := Op.move (Operand.tmp 5), type := 22, pos := "law.go:153", after := #[{ on := 4, ground := Ground.guard }], guard := some (4, true) }) (v := undef) rfl (by kernel_rfl) (by kernel_rfl) (by kernel_rfl) (fun _ _ _ h => h) (Or.inr ⟨by rfl, by rfl⟩) (by assumption) ?_
        simp only [Act.put, List.setIfInBounds_toArray, List.set_cons_zero, List.set_cons_succ]
        refine wpAnyH_take (i := 6) (oi := { dst := some 87, op := Op.move (Operand.tmp 11), type := 3, pos := "law.go:153", after := #[{ on := 4, ground := Ground.guard }], guard := some (4, true) }) (v := undef) rfl (by kernel_rfl) (by kernel_rfl) (by kernel_rfl) (fun _ _ _ h => h) (Or.inr ⟨by rfl, by rfl⟩) (by assumption) ?_
        simp only [Act.put, List.setIfInBounds_toArray, List.set_cons_zero, List.set_cons_succ]
        refine wpAnyH_take (i := 7) (oi := { dst := some 88, op := Op.indexAddr 22 (Operand.tmp 86) (Operand.tmp 87), type := 0, pos := "law.go:153", after := #[{ on := 5, ground := Ground.data }, { on := 6, ground := Ground.data }, { on := 4, ground := Ground.guard }], guard := some (4, true) }) (v := undef) rfl (by kernel_rfl) (by kernel_rfl) (by kernel_rfl) (fun _ _ _ h => h) (Or.inr ⟨by rfl, by rfl⟩) (by assumption) ?_
        simp only [Act.put, List.setIfInBounds_toArray, List.set_cons_zero, List.set_cons_succ]
        refine wpAnyH_take (i := 8) (oi := { dst := some 89, op := Op.load 5 (Operand.tmp 88), type := 5, pos := "law.go:153", after := #[{ on := 7, ground := Ground.data }, { on := 4, ground := Ground.guard }], guard := some (4, true) }) (v := undef) rfl (by kernel_rfl) (by kernel_rfl) (by kernel_rfl) (fun _ _ _ h => h) (Or.inr ⟨by rfl, by rfl⟩) (by assumption) ?_
        simp only [Act.put, List.setIfInBounds_toArray, List.set_cons_zero, List.set_cons_succ]
        refine wpAnyH_take (i := 9) (oi := { dst := some 90, op := Op.move (Operand.tmp 0), type := 22, pos := "law.go:153", after := #[{ on := 4, ground := Ground.guard }], guard := some (4, true) }) (v := undef) rfl (by kernel_rfl) (by kernel_rfl) (by kernel_rfl) (fun _ _ _ h => h) (Or.inr ⟨by rfl, by rfl⟩) (by assumption) ?_
        simp only [Act.put, List.setIfInBounds_toArray, List.set_cons_zero, List.set_cons_succ]
        refine wpAnyH_take (i := 10) (oi := { dst := some 91, op := Op.move (Operand.tmp 11), type := 3, pos := "law.go:153", after := #[{ on := 4, ground := Ground.guard }], guard := some (4, true) }) (v := undef) rfl (by kernel_rfl) (by kernel_rfl) (by kernel_rfl) (fun _ _ _ h => h) (Or.inr ⟨by rfl, by rfl⟩) (by assumption) ?_
        simp only [Act.put, List.setIfInBounds_toArray, List.set_cons_zero, List.set_cons_succ]
        refine wpAnyH_take (i := 11) (oi := { dst := some 92, op := Op.indexAddr 22 (Operand.tmp 90) (Operand.tmp 91), type := 0, pos := "law.go:153", after := #[{ on := 9, ground := Ground.data }, { on := 10, ground := Ground.data }, { on := 4, ground := Ground.guard }], guard := some (4, true) }) (v := undef) rfl (by kernel_rfl) (by kernel_rfl) (by kernel_rfl) (fun _ _ _ h => h) (Or.inr ⟨by rfl, by rfl⟩) (by assumption) ?_
        simp only [Act.put, List.setIfInBounds_toArray, List.set_cons_zero, List.set_cons_succ]
        refine wpAnyH_take (i := 12) (oi := { dst := some 93, op := Op.load 5 (Operand.tmp 92), type := 5, pos := "law.go:153", after := #[{ on := 11, ground := Ground.data }, { on := 4, ground := Ground.guard }], guard := some (4, true) }) (v := undef) rfl (by kernel_rfl) (by kernel_rfl) (by kernel_rfl) (fun _ _ _ h => h) (Or.inr ⟨by rfl, by rfl⟩) (by assumption) ?_
        simp only [Act.put, List.setIfInBounds_toArray, List.set_cons_zero, List.set_cons_succ]
        refine wpAnyH_take (i := 13) (oi := { dst := some 94, op := Op.binOp BinOp.neq 5 (Operand.tmp 89) (Operand.tmp 93) 5, type := 4, pos := "law.go:153", after := #[{ on := 8, ground := Ground.data }, { on := 12, ground := Ground.data }, { on := 4, ground := Ground.guard }], guard := some (4, true) }) (v := undef) rfl (by kernel_rfl) (by kernel_rfl) (by kernel_rfl) (fun _ _ _ h => h) (Or.inr ⟨by rfl, by rfl⟩) (by assumption) ?_
        simp only [Act.put, List.setIfInBounds_toArray, List.set_cons_zero, List.set_cons_succ]
        refine wpAnyH_take (i := 14) (oi := { dst := some 95, op := Op.pick (Operand.tmp 85) (Operand.tmp 94) (Operand.const (Value.bool false)), type := 4, pos := "law.go:153", after := #[{ on := 4, ground := Ground.data }, { on := 13, ground := Ground.data }], guard := none }) (v := ?_) rfl (by kernel_rfl) (by kernel_rfl) (by kernel_rfl) (fun _ _ _ h => h) (Or.inl ⟨by rfl, ?_⟩) (by assumption) ?_
        rotate_left
        · (intro w hSw; (try dsimp only at hSw); go_simp); first | done | with_reducible rfl
        simp only [Act.put, List.setIfInBounds_toArray, List.set_cons_zero, List.set_cons_succ]
        refine wpAnyH_take (i := 15) (oi := { dst := some 96, op := Op.move (Operand.tmp 95), type := 4, pos := "law.go:153", after := #[{ on := 14, ground := Ground.data }, { on := 4, ground := Ground.chain }], guard := none }) (v := ?_) rfl (by kernel_rfl) (by kernel_rfl) (by kernel_rfl) (fun _ _ _ h => h) (Or.inl ⟨by rfl, ?_⟩) (by assumption) ?_
        rotate_left
        · (intro w hSw; (try dsimp only at hSw); go_simp); first | done | with_reducible rfl
        simp only [Act.put, List.setIfInBounds_toArray, List.set_cons_zero, List.set_cons_succ]
        refine wpAnyH_take (i := 16) (oi := { dst := some 97, op := Op.move (Operand.tmp 11), type := 3, pos := "law.go:153", after := #[{ on := 15, ground := Ground.guard }], guard := some (15, false) }) (v := ?_) rfl (by kernel_rfl) (by kernel_rfl) (by kernel_rfl) (fun _ _ _ h => h) (Or.inl ⟨by rfl, ?_⟩) (by assumption) ?_
        rotate_left
        · (intro w hSw; (try dsimp only at hSw); go_simp); first | done | with_reducible rfl
        simp only [Act.put, List.setIfInBounds_toArray, List.set_cons_zero, List.set_cons_succ]
        refine wpAnyH_take (i := 17) (oi := { dst := some 98, op := Op.move (Operand.tmp 0), type := 22, pos := "law.go:153", after := #[{ on := 15, ground := Ground.guard }], guard := some (15, false) }) (v := ?_) rfl (by kernel_rfl) (by kernel_rfl) (by kernel_rfl) (fun _ _ _ h => h) (Or.inl ⟨by rfl, ?_⟩) (by assumption) ?_
        rotate_left
        · (intro w hSw; (try dsimp only at hSw); go_simp); first | done | with_reducible rfl
        simp only [Act.put, List.setIfInBounds_toArray, List.set_cons_zero, List.set_cons_succ]
        refine wpAnyH_take (i := 18) (oi := { dst := some 99, op := Op.call { callee := Callee.builtin Builtin.len, args := #[Operand.tmp 98], argTypes := #[22] }, type := 3, pos := "law.go:153", after := #[{ on := 17, ground := Ground.data }, { on := 15, ground := Ground.guard }], guard := some (15, false) }) (v := ?_) rfl (by kernel_rfl) (by kernel_rfl) (by kernel_rfl) (fun _ _ _ h => h) (Or.inl ⟨by rfl, ?_⟩) (by assumption) ?_
        rotate_left
        · (intro w hSw; (try dsimp only at hSw); go_simp); first | done | with_reducible rfl
        simp only [Act.put, List.setIfInBounds_toArray, List.set_cons_zero, List.set_cons_succ]
        refine wpAnyH_take (i := 19) (oi := { dst := some 100, op := Op.binOp BinOp.geq 3 (Operand.tmp 97) (Operand.tmp 99) 3, type := 4, pos := "law.go:153", after := #[{ on := 16, ground := Ground.data }, { on := 18, ground := Ground.data }, { on := 15, ground := Ground.guard }], guard := some (15, false) }) (v := ?_) rfl (by kernel_rfl) (by kernel_rfl) (by kernel_rfl) (fun _ _ _ h => h) (Or.inl ⟨by rfl, ?_⟩) (by assumption) ?_
        rotate_left
        · (intro w hSw; (try dsimp only at hSw); go_simp); first | done | with_reducible rfl
        simp only [Act.put, List.setIfInBounds_toArray, List.set_cons_zero, List.set_cons_succ]
        refine wpAnyH_take (i := 20) (oi := { dst := some 101, op := Op.move (Operand.tmp 100), type := 4, pos := "law.go:153", after := #[{ on := 19, ground := Ground.data }, { on := 15, ground := Ground.chain }, { on := 15, ground := Ground.guard }], guard := some (15, false) }) (v := ?_) rfl (by kernel_rfl) (by kernel_rfl) (by kernel_rfl) (fun _ _ _ h => h) (Or.inl ⟨by rfl, ?_⟩) (by assumption) ?_
        rotate_left
        · (intro w hSw; (try dsimp only at hSw); go_simp); first | done | with_reducible rfl
        simp only [Act.put, List.setIfInBounds_toArray, List.set_cons_zero, List.set_cons_succ]
        refine wpAnyH_take (i := 21) (oi := { dst := some 102, op := Op.move (Operand.tmp 5), type := 22, pos := "law.go:153", after := #[{ on := 20, ground := Ground.guard }], guard := some (20, true) }) (v := ?_) rfl (by kernel_rfl) (by kernel_rfl) (by kernel_rfl) (fun _ _ _ h => h) (Or.inl ⟨by rfl, ?_⟩) (by assumption) ?_
        rotate_left
        · (intro w hSw; (try dsimp only at hSw); go_simp); first | done | with_reducible rfl
        simp only [Act.put, List.setIfInBounds_toArray, List.set_cons_zero, List.set_cons_succ]
        refine wpAnyH_take (i := 22) (oi := { dst := some 103, op := Op.move (Operand.tmp 11), type := 3, pos := "law.go:153", after := #[{ on := 20, ground := Ground.guard }], guard := some (20, true) }) (v := ?_) rfl (by kernel_rfl) (by kernel_rfl) (by kernel_rfl) (fun _ _ _ h => h) (Or.inl ⟨by rfl, ?_⟩) (by assumption) ?_
        rotate_left
        · (intro w hSw; (try dsimp only at hSw); go_simp); first | done | with_reducible rfl
        simp only [Act.put, List.setIfInBounds_toArray, List.set_cons_zero, List.set_cons_succ]
        refine wpAnyH_take (i := 23) (oi := { dst := some 104, op := Op.indexAddr 22 (Operand.tmp 102) (Operand.tmp 103), type := 0, pos := "law.go:153", after := #[{ on := 21, ground := Ground.data }, { on := 22, ground := Ground.data }, { on := 20, ground := Ground.guard }], guard := some (20, true) }) (v := ?_) rfl (by kernel_rfl) (by kernel_rfl) (by kernel_rfl) (fun _ _ _ h => h) (Or.inl ⟨by rfl, ?_⟩) (by assumption) ?_
        rotate_left
        · (intro w hSw; (try dsimp only at hSw); go_simp); first | done | with_reducible rfl
        simp only [Act.put, List.setIfInBounds_toArray, List.set_cons_zero, List.set_cons_succ]
        refine wpAnyH_take (i := 24) (oi := { dst := some 105, op := Op.load 5 (Operand.tmp 104), type := 5, pos := "law.go:153", after := #[{ on := 23, ground := Ground.data }, { on := 20, ground := Ground.guard }], guard := some (20, true) }) (v := ?_) rfl (by kernel_rfl) (by kernel_rfl) (by kernel_rfl) (fun _ _ _ h => h) (Or.inl ⟨by rfl, ?_⟩) (by assumption) ?_
        rotate_left
        · (intro w hSw; (try dsimp only at hSw); have h3 := hSw; go_simp); first | done | with_reducible rfl
        simp only [Act.put, List.setIfInBounds_toArray, List.set_cons_zero, List.set_cons_succ]
        refine wpAnyH_take (i := 25) (oi := { dst := some 106, op := Op.binOp BinOp.neq 5 (Operand.tmp 105) (Operand.const (Value.int IntKind.u8 0)) 5, type := 4, pos := "law.go:153", after := #[{ on := 24, ground := Ground.data }, { on := 20, ground := Ground.guard }], guard := some (20, true) }) (v := ?_) rfl (by kernel_rfl) (by kernel_rfl) (by kernel_rfl) (fun _ _ _ h => h) (Or.inl ⟨by rfl, ?_⟩) (by assumption) ?_
        rotate_left
        · (intro w hSw; (try dsimp only at hSw); go_simp); first | done | with_reducible rfl
        simp only [Act.put, List.setIfInBounds_toArray, List.set_cons_zero, List.set_cons_succ]
        refine wpAnyH_take (i := 26) (oi := { dst := some 107, op := Op.pick (Operand.tmp 101) (Operand.tmp 106) (Operand.const (Value.bool false)), type := 4, pos := "law.go:153", after := #[{ on := 20, ground := Ground.data }, { on := 25, ground := Ground.data }, { on := 15, ground := Ground.guard }], guard := some (15, false) }) (v := ?_) rfl (by kernel_rfl) (by kernel_rfl) (by kernel_rfl) (fun _ _ _ h => h) (Or.inl ⟨by rfl, ?_⟩) (by assumption) ?_
        rotate_left
        · (intro w hSw; (try dsimp only at hSw); go_simp); first | done | with_reducible rfl
        simp only [Act.put, List.setIfInBounds_toArray, List.set_cons_zero, List.set_cons_succ]
        refine wpAnyH_take (i := 27) (oi := { dst := some 108, op := Op.pick (Operand.tmp 96) (Operand.const (Value.bool true)) (Operand.tmp 107), type := 4, pos := "law.go:153", after := #[{ on := 15, ground := Ground.data }, { on := 26, ground := Ground.data }], guard := none }) (v := ?_) rfl (by kernel_rfl) (by kernel_rfl) (by kernel_rfl) (fun _ _ _ h => h) (Or.inl ⟨by rfl, ?_⟩) (by assumption) ?_
        rotate_left
        · (intro w hSw; (try dsimp only at hSw); go_simp); first | done | with_reducible rfl
        simp only [Act.put, List.setIfInBounds_toArray, List.set_cons_zero, List.set_cons_succ]
        refine wpAnyH_done (by kernel_rfl) ?_ _
        clear hHeld
        go_wp2_with fail
        go_roundw
        case rel => exact ⟨k + 1, HLT.out, (by rw [HK1.out]), HBx⟩
        case measure => rw [HK1.out]; have := HLT.out; simp [intOf]; omega
    · have hki : ¬ (k : Int) < (m : Int) := by omega
      have HE : Hid (Below n0 w wr) := (HTf.out.below HBk.out).bel
      clear hlt hk
      go_wp2_with fail
      go_ret
      exact ⟨rfl, hn0 ▸ HE.out⟩
end Go.Proofs.Ytflinfmhmokfhaa
