/- WireNested: the law. -/
import Derived.Test.YtflinfmhmokfhaaUNk
namespace Go.Proofs.Ytflinfmhmokfhaa
open Go.RowKit
attribute [local go_sem ↓] ldG_eq stG_eq ldK_eq stK_eq
attribute [local go_sem] GC_size KC_size to_GC to_KC fold_GC1 KC_s0 KC_s1
/-- bytes handed in -/
structure BIn (w : World) (ao : Option Addr) (n c : Nat) (Z : List Int) : Prop where
  s : Src w ao n c Z
  cap : n ≤ c
  big : n ≤ 1048576
/-- asks handed in -/
structure KIn (w : World) (ao : Option Addr) (n c : Nat) (P : List Ask) : Prop where
  s : KSrc w ao n c P
  cap : n ≤ c
  big : n ≤ 1048576
abbrev nestC (bo : Option Addr) (bn bc : Nat) (co : Option Addr) (cn cc : Nat) (o0 : Option Addr) (n0 c0 : Nat) (o1 : Option Addr) (n1 c1 : Nat) (o2 : Option Addr) (n2 c2 : Nat) : Array Value := #[.slice bo bn bc, .slice co cn cc, .slice o0 n0 c0, .slice o1 n1 c1, .slice o2 n2 c2]
theorem src_lit7 (w : World) : Src (w.alloc (.cells #[.int .u8 7] 5)) (some ⟨w.heap.size, 0, none⟩) 1 1 [7] := by
  refine ⟨rfl, fun h => (by cases h), fun ad ha t ht => ?_, ?_⟩
  · obtain rfl := Option.some.inj ha
    have h := heap_alloc_new w (.cells #[.int .u8 7] 5)
    rw [Addr.add_lit, Nat.zero_add]
    simp only [World.cell?, h]
    match t, ht with
    | 0, _ => rfl
  · intro t
    match t with
    | 0 => decide
    | t + 1 => simp
theorem m1 (ng m : Nat) (h : ng + 1 = m) (hs : ng ≤ 9000000) : wrap64 ((m : Int) - 1) = (ng : Int) := by rw [w64 (by omega) (by omega)]; omega
theorem res_len {P0 P1 P2 : List Ask} {Z0 Zc : List Int} {I G : List Got} {b : Bool} {x err : Int} (h : Res P0 P1 P2 Z0 Zc I G b x err) : G.length ≤ P0.length + P2.length ∧ I.length ≤ P1.length := by
  have h1 := rdJ_len P0 Z0
  have h2 := rdJ_len P1 Zc
  have h3 := rdJ_len (calm P2) (rdT P0 Z0).2.2
  have h4 := calm_le P2
  rcases h with ⟨_, rfl, rfl, _⟩ | ⟨_, rfl, ⟨_, rfl, _⟩ | ⟨_, rfl, _⟩⟩
  · exact ⟨by omega, Nat.zero_le _⟩
  · exact ⟨by omega, h2⟩
  · rw [List.length_append]
    exact ⟨by omega, h2⟩
theorem GR.cap {w : World} {ao : Option Addr} {n c : Nat} {Q : List Got} (h : GR w ao n c Q) : n ≤ c := by
  rcases h.2 with ⟨h0, h00⟩ | ⟨q, cap2, cur, hv, hq, hh, hc, x⟩
  · simp only [Value.slice.injEq] at h0
    omega
  · simp only [Value.slice.injEq, true_and] at hv
    omega
theorem gatKeep {w w' : World} {a : Addr} {s : Got} (h : GAt w a s) (e : w'.heap[a.block]? = w.heap[a.block]?) : GAt w' a s := by
  have key : ∀ k, w'.cell? (a.add k) = w.cell? (a.add k) := fun k => World.cell?_of_block (w := w) (a := a.add k) (by rw [block_of_add]; exact e)
  have key0 : w'.cell? a = w.cell? a := World.cell?_of_block (w := w) (a := a) e
  exact ⟨key0.trans h.c0, (key 1).trans h.c1, (key 2).trans h.c2⟩
theorem gKeep {w w' : World} {ao : Option Addr} {n c : Nat} {X : List Got} (h : GSrc w ao n c X) (hk : ∀ k, blk ao = some k → w'.heap[k]? = w.heap[k]?) : GSrc w' ao n c X :=
  ⟨h.len, h.nil, fun ad ha t ht => gatKeep (h.cell ad ha t ht) (by rw [block_of_add]; exact hk _ (by rw [ha]; rfl))⟩
theorem gCut {w : World} {ad : Addr} {n m c : Nat} {X : List Got} {g : Got} (h : GSrc w (some ad) m c (X ++ [g])) (hm : n + 1 = m) : GSrc w (some ad) n c X := by
  have hl := h.len
  rw [List.length_append, List.length_singleton] at hl
  refine ⟨by omega, fun e => (by cases e), fun a ha t ht => ?_⟩
  have := h.cell a ha t (by omega)
  rw [List.getD_eq_getElem?_getD, List.getElem?_append_left (by omega), ← List.getD_eq_getElem?_getD] at this
  exact this
theorem calm_getD (P : List Ask) (t : Nat) (h : t < (calm P).length) : (calm P).getD t k0 = P.getD t k0 := by
  obtain ⟨R, hR⟩ : ∃ R, calm P ++ R = P := List.takeWhile_prefix _
  have e : P.getD t k0 = (calm P ++ R).getD t k0 := by rw [hR]
  rw [e, List.getD_eq_getElem?_getD, List.getD_eq_getElem?_getD, List.getElem?_append_left h]
theorem kCalm {w : World} {ao : Option Addr} {n c k : Nat} {P : List Ask} (h : KSrc w ao n c P) (hk : (calm P).length = k) : KSrc w ao k c (calm P) := by
  have hl := h.len
  have hc := calm_le P
  refine ⟨hk, fun e => ⟨by have := h.nil e; omega, (h.nil e).2⟩, fun ad ha t ht => ?_⟩
  rw [calm_getD P t (by omega)]
  exact h.cell ad ha t (by omega)
/-- from the two readings to the memory behind them -/
theorem la_of {N0 n ng m cg ni ci c2 bq : Nat} {v : Array Value} {w we w6 w7 w8 w9 : World} {lg li : Option Addr} {I G : List Got} {b : Bool} {x : Int} (S : S5 N0 v w we) (b6 : Below we.heap.size we w6) (hn : w6.heap.size = n) (hN : N0 + 5 ≤ n)
    (k7 : w7.os = w6.os ∧ w7.tape = w6.tape ∧ w7.output = w6.output ∧ w6.heap.size ≤ w7.heap.size ∧ ∀ k, k < n → k ≠ N0 + 1 → k ≠ N0 + 2 → k ≠ N0 + 3 → k ≠ N0 + 4 → w7.heap[k]? = w6.heap[k]?)
    (vi : Var w7 (N0 + 2) (.slice li ni ci) 24) (gi : GR w7 li ni ci I) (hli : ∀ k, blk li = some k → n ≤ k ∧ blk lg ≠ some k) (hlg : ∀ k, blk lg = some k → n ≤ k) (vx : Var w7 (N0 + 3) (.bool b) 4) (ve : Var w7 (N0 + 4) (.int .i64 x) 26)
    (b8 : Below w7.heap.size w7 w8)
    (k9 : w9.os = w8.os ∧ w9.tape = w8.tape ∧ w9.output = w8.output ∧ w8.heap.size ≤ w9.heap.size ∧ ∀ k, k < w8.heap.size → k ≠ N0 + 1 → blk lg ≠ some k → w9.heap[k]? = w8.heap[k]?)
    (v9 : Var w9 (N0 + 1) (.slice (some ⟨bq, 0, none⟩) m c2) 24) (g9 : GR w9 (some ⟨bq, 0, none⟩) m c2 (G ++ [g7])) (hl2 : blk lg = some bq ∨ w8.heap.size ≤ bq) (hm : ng + 1 = m) (he : cg = c2) :
    LA N0 v w (w9.setCell ⟨N0 + 1, 0, none⟩ (.slice (some ⟨bq, 0, none⟩) ng c2)) (some ⟨bq, 0, none⟩) li ng cg ni ci I G b x := by
  subst he
  obtain ⟨a1, a2, a3, a4, a5⟩ := k7
  obtain ⟨d1, d2, d3, d4, d5⟩ := k9
  have s5 := S.sz
  have s6 := b6.size
  have s8 := b8.size
  have oa : ∀ k, k ≠ N0 + 1 → (w9.setCell ⟨N0 + 1, 0, none⟩ (.slice (some ⟨bq, 0, none⟩) ng cg)).heap[k]? = w9.heap[k]? := fun k hk => set_other w9 (N0 + 1) 0 k _ hk
  have nlg : ∀ k, k < n → blk lg ≠ some k := fun k hk e => by have := hlg k e; omega
  have k97 : ∀ k, k < w7.heap.size → k ≠ N0 + 1 → blk lg ≠ some k → (w9.setCell ⟨N0 + 1, 0, none⟩ (.slice (some ⟨bq, 0, none⟩) ng cg)).heap[k]? = w7.heap[k]? := fun k h1 h2 h3 => (oa k h2).trans ((d5 k (by omega) h2 h3).trans (b8.block k h1))
  have k0 : ∀ k, k < N0 + 1 → (w9.setCell ⟨N0 + 1, 0, none⟩ (.slice (some ⟨bq, 0, none⟩) ng cg)).heap[k]? = we.heap[k]? := fun k h1 => (k97 k (by omega) (by omega) (nlg k (by omega))).trans ((a5 k (by omega) (by omega) (by omega) (by omega) (by omega)).trans (b6.block k (by omega)))
  have hbq : bq ≠ N0 + 1 := by
    rcases hl2 with e | e
    · have := hlg bq e; omega
    · omega
  refine ⟨⟨?_, ?_, ?_, by rw [set_size]; have := S.bel.size; omega, fun k hk => (k0 k (by omega)).trans (S.bel.block k hk)⟩, (k0 _ (by omega)).trans S.nb, set_heap w9 (N0 + 1) _ _ _ 0 _ v9, gKeep (gCut g9.src hm) (fun k e => oa k (by have h : bq = k := Option.some.inj e; omega)), (k97 _ vi.lt (by omega) (nlg _ (by omega))).trans vi, gKeep gi.src (fun k e => k97 k (gi.lt k e) (by have := (hli k e).1; omega) (hli k e).2), (k97 _ vx.lt (by omega) (nlg _ (by omega))).trans vx, (k97 _ ve.lt (by omega) (nlg _ (by omega))).trans ve⟩
  · rw [setCell_os]; exact d1.trans (b8.os.trans (a1.trans (b6.os.trans S.bel.os)))
  · rw [setCell_tape]; exact d2.trans (b8.tape.trans (a2.trans (b6.tape.trans S.bel.tape)))
  · rw [setCell_output]; exact d3.trans (b8.output.trans (a3.trans (b6.output.trans S.bel.output)))
set_option maxRecDepth 100000 in
set_option maxHeartbeats 16000000 in
theorem wireNested_any (bo : Option Addr) (bn bc : Nat) (ZB : List Int) (co : Option Addr) (cn cc : Nat) (ZC : List Int) (o0 : Option Addr) (n0 c0 : Nat) (P0 : List Ask) (o1 : Option Addr) (n1 c1 : Nat) (P1 : List Ask) (o2 : Option Addr) (n2 c2 : Nat) (P2 : List Ask) (w : World)
    (SB : BIn w bo bn bc ZB) (SC : BIn w co cn cc ZC) (Q0 : KIn w o0 n0 c0 P0) (Q1 : KIn w o1 n1 c1 P1) (Q2 : KIn w o2 n2 c2 P2) (hsum : n0 + n2 ≤ 1048576) :
    Calls Try.prog 5 #[.agg (nestC bo bn bc co cn cc o0 n0 c0 o1 n1 c1 o2 n2 c2)] w fun r w' => r = .returned (.bool true) ∧ Below w.heap.size w w' := by
  have hmf : ∀ (fn : Fn) (first cap : Array Value) (w : World), (Instr.makeFunc fn first cap).run Try.prog w = .ok (.func fn first cap) w := fun _ _ _ _ => rfl
  have HB := hide SB
  have HCi := hide SC
  have HQ := hide (And.intro Q0 (And.intro Q1 Q2))
  have HSu : Hid (n0 + n2 ≤ 1048576) := hsum
  obtain ⟨N0, hN⟩ : ∃ N0, w.heap.size = N0 := ⟨_, rfl⟩
  obtain ⟨w1, h1⟩ : ∃ w1, w.alloc (.cells (nestC bo bn bc co cn cc o0 n0 c0 o1 n1 c1 o2 n2 c2) 54) = w1 := ⟨_, rfl⟩
  obtain ⟨w2, h2⟩ : ∃ w2, w1.alloc (.cells #[.slice none 0 0] 24) = w2 := ⟨_, rfl⟩
  obtain ⟨w3, h3⟩ : ∃ w3, w2.alloc (.cells #[.slice none 0 0] 24) = w3 := ⟨_, rfl⟩
  obtain ⟨w4, h4⟩ : ∃ w4, w3.alloc (.cells #[.bool false] 4) = w4 := ⟨_, rfl⟩
  obtain ⟨wx, h4'⟩ : ∃ wx, w4.setCell ⟨N0 + 3, 0, none⟩ (.bool false) = wx := ⟨_, rfl⟩
  obtain ⟨w5, h5⟩ : ∃ w5, wx.alloc (.cells #[.int .i64 0] 26) = w5 := ⟨_, rfl⟩
  obtain ⟨we, h5'⟩ : ∃ we, w5.setCell ⟨N0 + 4, 0, none⟩ (.int .i64 0) = we := ⟨_, rfl⟩
  obtain ⟨z1, z2, z3, z4, n4, n5, S⟩ := start5 w hN _ h1 h2 h3 h4 h4' h5 h5'
  have y4 := n4.c
  have y4z := n4.z
  have y5 := n5.c
  have y5z := n5.z
  have HS5 := hide S
  have bn5 := below_new we (.cells #[] 5)
  have nb0 : (we.alloc (.cells #[] 5)).cell? ⟨N0, 0, none⟩ = some (.slice bo bn bc) := by
    rw [World.cell?_of_block (w := we) (bn5.block N0 (by have := S.sz; omega)), nb_cell S.nb 0]
    rfl
  have HSb := hide (SB.s.below (hN ▸ S.bel))
  have HLit := hide (BR.lit we)
  have HBs := hide ((HSb.out.below bn5).bs)
  have HN0 : Hid (0 + bn ≤ 140737488355328) := by show _ ≤ _; have := SB.big; omega
  unfold nestC at h1
  clear SB SC Q0 Q1 Q2 hsum n4 n5 S bn5
  go_enter Try.func5, Try.ntmps5
  go_wp2_with (at_builtin; refine HLit.out.appB HBs.out HN0.out rfl (.tmp 19) (.tmp 21) rfl rfl rfl ?_; intro b6 c6 w6 B6 A6; rw [Nat.zero_add] at B6 ⊢; rw [List.nil_append] at B6; have HB6 := hide B6; have HA6 := hide A6.fresh; clear B6 A6)
  clear HLit HBs HN0 nb0 h1 h2 h3 h4 h4' h5 h5' z1 z2 z3 z4 y4 y4z y5 y5z w1 w2 w3 w4 wx w5
  obtain ⟨n, hn⟩ : ∃ n, w6.heap.size = n := ⟨_, rfl⟩
  have HN6 : Hid (w6.heap.size = n ∧ N0 + 5 ≤ n) := ⟨hn, by have := HA6.out.1.size; have := HS5.out.sz; omega⟩
  have HBe : Hid (Below N0 w w6) := HS5.out.bel.trans (HA6.out.1.mono (by have := HS5.out.sz; omega))
  have HOR : Hid (Calls Try.prog 6 #[.slice b6 bn c6, .func (.func 19) #[] #[ptr N0, ptr (N0 + 1), ptr (N0 + 2), ptr (N0 + 4), ptr (N0 + 3)]] w6 fun r w' => ORP N0 n w6 P0 P1 P2 ZB ZC r w') := by
    have s5 := HS5.out.sz
    have kb : ∀ k, k < N0 + 5 → w6.heap[k]? = we.heap[k]? := fun k hk => HA6.out.1.block k (by omega)
    have nb6 := (kb N0 (by omega)).trans HS5.out.nb
    have hB := hN ▸ HBe.out
    exact outerRead_any w6 HN6.out.1 HN6.out.2 ⟨HB6.out.bs.len, HB6.out.bs.nil, HB6.out.bs.cell, HSb.out.2.2.2⟩ HB6.out.cap (by have := HB.out.big; omega) (fun _ k e => by have := HA6.out.2 k e; omega) (fun k e => by have := HA6.out.2 k e; omega) (nb_cell nb6 1) (nb_cell nb6 2) (nb_cell nb6 3) (nb_cell nb6 4) ((kb _ (by omega)).trans HS5.out.v1) ((kb _ (by omega)).trans HS5.out.v2) ((kb _ (by omega)).trans HS5.out.v3) ((kb _ (by omega)).trans HS5.out.v4) (HCi.out.s.below hB) HCi.out.big (fun h0 k e => by have := src_lt HCi.out.s h0 k e; omega)
      (HQ.out.1.s.below hB) (HQ.out.2.1.s.below hB) (HQ.out.2.2.s.below hB) HQ.out.1.big HQ.out.2.1.big HQ.out.2.2.big (fun h0 k e => by have := kLt HQ.out.1.s h0 k e; omega) (fun h0 k e => by have := kLt HQ.out.2.1.s h0 k e; omega) (fun h0 k e => by have := kLt HQ.out.2.2.s h0 k e; omega)
  clear hn
  refine HOR.out.mono ?_
  rintro r w7 ⟨I, G, b, x, err, hRes, rfl, ⟨li, ni, ci, lg, ng, cg, vi, gi, vg, gg, hli, hlg⟩, vx, ve, k7⟩
  have HRes := hide hRes
  have hng : ng ≤ 9000000 := by have h1 := (res_len hRes).1; rw [gg.len] at h1; have := HQ.out.1.s.len; have := HQ.out.2.2.s.len; have := HQ.out.1.big; have := HQ.out.2.2.big; omega
  have HNg : Hid (ng ≤ 9000000) := hng
  have b8 := below_new w7 (.cells #[.int .u8 7] 5)
  have s7 := src_lit7 w7
  obtain ⟨w8, hw8⟩ : ∃ w8, w7.alloc (.cells #[.int .u8 7] 5) = w8 := ⟨_, rfl⟩
  rw [hw8] at b8 s7
  have H7 := hide (rd7_any (gg := N0 + 1) w8 ((b8.block _ vg.lt).trans vg) (gg.below b8) hng _ 1 s7 (Nat.le_refl _) (fun k e => by have h : w7.heap.size = k := Option.some.inj e; exact ⟨by have := vg.lt; omega, fun y => by have := gg.lt k y; omega⟩) (fun y => by have := hlg _ y; have := HN6.out.2; omega))
  have H7a := hide (And.intro k7 (And.intro vi (And.intro gi (And.intro hli (And.intro hlg (And.intro vx (And.intro ve b8)))))))
  clear hRes vi gi vg gg hli hlg vx ve k7 b8 s7 HOR HB6 HSb hng
  go_wp2_with fail
  refine H7.out.mono ?_
  rintro r w9 ⟨rfl, k9, l2, c9, v9, g9, hl2⟩
  obtain ⟨bq, rfl, A9⟩ := g9.at ng (by omega)
  obtain ⟨m, hm⟩ : ∃ m, ng + 1 = m := ⟨_, rfl⟩
  rw [hm] at v9 g9
  have e7 : (G ++ [g7]).getD ng g0 = g7 := by
    have hl := g9.len
    rw [List.length_append, List.length_singleton] at hl
    rw [List.getD_eq_getElem?_getD, List.getElem?_append_right (by omega), show ng - G.length = 0 by omega]
    rfl
  rw [e7] at A9
  have x9 := v9.c
  have x9z := v9.z
  have hc9 : w9.cell? ⟨bq, ng * 3, none⟩ = some (.int .i64 7) := A9.c0
  have hmz : ((m : Int) == 0) = false := by simp; omega
  have hm1 := m1 ng m hm HNg.out
  have hngm : ng < m := by omega
  have hngc : ng ≤ c9 := by have := g9.cap; omega
  have HLA := hide (la_of HS5.out HA6.out.1 HN6.out.1 HN6.out.2 H7a.out.1 H7a.out.2.1 H7a.out.2.2.1 H7a.out.2.2.2.1 H7a.out.2.2.2.2.1 H7a.out.2.2.2.2.2.1 H7a.out.2.2.2.2.2.2.1 H7a.out.2.2.2.2.2.2.2 k9 v9 g9 (hl2 bq rfl) hm rfl)
  obtain ⟨wa, hwa⟩ : ∃ wa, w9.setCell ⟨N0 + 1, 0, none⟩ (.slice (some ⟨bq, 0, none⟩) ng c9) = wa := ⟨_, rfl⟩
  rw [hwa] at HLA
  have ya0 : wa.cell? ⟨N0, 0, none⟩ = some (.slice bo bn bc) := nb_cell HLA.out.nb 0
  have ya2 : wa.cell? ⟨N0, 2, none⟩ = some (.slice o0 n0 c0) := nb_cell HLA.out.nb 2
  have HF0 := hide (from_any bo bn bc ZB o0 n0 c0 P0 wa (HB.out.s.below (hN ▸ HLA.out.bel)) HB.out.cap (by have := HB.out.big; omega) (HQ.out.1.s.below (hN ▸ HLA.out.bel)) (by have := HQ.out.1.big; omega))
  have HRl := hide (res_len HRes.out)
  clear k9 v9 g9 hl2 A9 e7 H7 H7a hw8 hm HA6 HBe HN6 HS5 HNg
  go_wp2_with fail
  refine HF0.out.mono ?_
  rintro r wb ⟨lw, nw, cw, xa, rfl, hF, hx0⟩
  have HLb := hide (HLA.out.below hF.bel)
  have HFw := hide hF
  have hlw := hF.qr.len
  clear hF HF0 x9 x9z hc9 hmz hm1 hngm hngc hwa ya0 ya2
  rcases HRes.out with ⟨e0, rfl, rfl, rfl, rfl⟩ | ⟨e0, rfl, hRest⟩
  · have h0 : ((rdT P0 ZB).2.1 != 0) = true := by simpa using e0
    obtain ⟨ef, hef⟩ : ∃ ef, (rdT P0 ZB).2.1 = ef := ⟨_, rfl⟩
    rw [hef] at h0 ⊢
    have yx := HLb.out.vx.c
    have yg := HLb.out.vg.c
    have hng := HLb.out.gs.len
    have hni := HLb.out.gi.len
    rw [hlw] at hng
    subst hng
    have hni' : ni = 0 := hni.symm
    subst hni'
    have HAl := hide (alike_any _ lw nw c9 cw _ wb HLb.out.gs HFw.out.qr.src (by have h1 := HRl.out.1; rw [hlw] at h1; have := HQ.out.1.s.len; have := HQ.out.2.2.s.len; have := HSu.out; omega))
    clear e0 hef hlw hx0 hni
    go_wp2_with fail
    refine HAl.out.mono ?_
    rintro r wc ⟨rfl, bc'⟩
    have HLc := hide (HLb.out.below bc')
    have yi := HLc.out.vi.c
    clear bc' HAl HLb yx yg h0
    go_wp2_with fail
    go_ret
    exact ⟨rfl, hN ▸ HLc.out.bel⟩
  · obtain ⟨a0, rfl, ha0, hd0⟩ := hx0 e0
    have HA0 : Hid (a0 ≤ bn ∧ (rdT P0 ZB).2.2 = ZB.drop a0) := ⟨ha0, hd0⟩
    have HE0 : Hid ((rdT P0 ZB).2.1 = 0) := e0
    rw [e0]
    have yb1 : wb.cell? ⟨N0, 1, none⟩ = some (.slice co cn cc) := nb_cell HLb.out.nb 1
    have yb3 : wb.cell? ⟨N0, 3, none⟩ = some (.slice o1 n1 c1) := nb_cell HLb.out.nb 3
    have HF1 := hide (from_any co cn cc ZC o1 n1 c1 P1 wb (HCi.out.s.below (hN ▸ HLb.out.bel)) HCi.out.cap (by have := HCi.out.big; omega) (HQ.out.2.1.s.below (hN ▸ HLb.out.bel)) (by have := HQ.out.2.1.big; omega))
    have HRt := hide hRest
    clear e0 ha0 hd0 hx0 hRest
    go_wp2_with fail
    refine HF1.out.mono ?_
    rintro r wc ⟨lv, nv, cv, xc, rfl, hF, hx1⟩
    have HLc := hide (HLb.out.below hF.bel)
    have HFc := hide (HFw.out.below hF.bel)
    have yi := HLc.out.vi.c
    have hni := HLc.out.gi.len
    have hnv := hF.qr.len
    rw [hnv] at hni
    subst hni
    have HAl := hide (alike_any li lv nv ci cv _ wc HLc.out.gi hF.qr.src (by have h1 := HRl.out.2; rw [hnv] at h1; have := HQ.out.2.1.s.len; have := HQ.out.2.1.big; omega))
    have HX1 := hide hx1
    clear hF hnv hx1 HF1 yb1 yb3 HLb HFw
    obtain ⟨eg, heg⟩ : ∃ eg, (rdT P1 ZC).2.1 = eg := ⟨_, rfl⟩
    have HEg : Hid ((rdT P1 ZC).2.1 = eg) := heg
    rw [heg]
    clear heg
    go_wp2_with fail
    refine HAl.out.mono ?_
    rintro r wd ⟨rfl, bd⟩
    have HLd := hide (HLc.out.below bd)
    have HFd := hide (HFc.out.below bd)
    clear bd HAl HLc HFc yi
    rcases HRt.out with ⟨e1, rfl, rfl, rfl, rfl⟩ | ⟨e1, rfl, hRest⟩
    · rw [HEg.out] at e1
      have h1 : (eg == 0) = false := by simpa using e1
      have yd0 : wd.cell? ⟨N0, 0, none⟩ = some (.slice bo bn bc) := nb_cell HLd.out.nb 0
      have yx := HLd.out.vx.c
      have ye := HLd.out.ve.c
      have yg := HLd.out.vg.c
      have hng := HLd.out.gs.len
      rw [hlw] at hng
      subst hng
      have HAl2 := hide (alike_any _ lw nw c9 cw _ wd HLd.out.gs HFd.out.qr.src (by have h1 := rdJ_len P0 ZB; rw [hlw] at h1; have := HQ.out.1.s.len; have := HQ.out.1.big; omega))
      rw [HA0.out.2]
      have hlen : (ZB.drop a0).length = bn - a0 := by rw [List.length_drop, HB.out.s.1]
      rw [hlen, HEg.out] at *
      clear e1
      by_cases hab : a0 < bn
      · have hai : (a0 : Int) < (bn : Int) := by omega
        rw [show endA (bn - a0) = 52 from if_neg (by omega)]
        clear hab hlen
        go_wp2_with fail
        refine HAl2.out.mono ?_
        rintro r wz ⟨rfl, bz⟩
        have HLz := hide (HLd.out.below bz)
        clear bz
        go_wp2_with fail
        go_ret
        exact ⟨rfl, hN ▸ HLz.out.bel⟩
      · have hai : ¬ (a0 : Int) < (bn : Int) := by omega
        rw [show endA (bn - a0) = 0 from if_pos (by omega)]
        clear hab hlen
        go_wp2_with fail
        refine HAl2.out.mono ?_
        rintro r wz ⟨rfl, bz⟩
        have HLz := hide (HLd.out.below bz)
        clear bz
        go_wp2_with fail
        go_ret
        exact ⟨rfl, hN ▸ HLz.out.bel⟩
    · rw [HEg.out] at e1
      subst e1
      rw [HA0.out.2] at hRest HLA HLd
      obtain ⟨a1, rfl, ha1, hd1⟩ := HX1.out HEg.out
      have HA1 : Hid (a1 ≤ cn ∧ (rdT P1 ZC).2.2.length = cn - a1) := ⟨ha1, by rw [hd1, List.length_drop, HCi.out.s.1]⟩
      rw [HA1.out.2] at hRest
      have HRt2 := hide hRest
      have HP2 : Hid (P2.length = n2) := HQ.out.2.2.s.len
      have yd4 : wd.cell? ⟨N0, 4, none⟩ = some (.slice o2 n2 c2) := nb_cell HLd.out.nb 4
      clear ha1 hd1 HRt hRest HX1
      go_wp2_with fail
      go_loopw [15] (fun i wr => ∃ k : Nat, k ≤ (calm P2).length ∧ i = .int .i64 k ∧ wr = wd) (fun i _ => n2 - (intOf i).toNat)
      case atStart => exact ⟨0, Nat.zero_le _, rfl, rfl⟩
      case round =>
        obtain ⟨k, hk, rfl, rfl⟩ := hrel
        have hcl := calm_le P2
        rw [HP2.out] at hcl
        by_cases hlt : k < n2
        · obtain ⟨ad, rfl, A⟩ := (HQ.out.2.2.s.below (hN ▸ HLd.out.bel)).at k hlt
          have hlt' : (k : Int) < (n2 : Int) := by omega
          obtain ⟨s, hs⟩ : ∃ s, P2.getD k k0 = s := ⟨_, rfl⟩
          rw [hs] at A
          have ak := A.c0
          by_cases h8 : s.kind = 8
          · have hkc := calm_eq P2 k hk (by rw [HP2.out]; exact hlt) (by rw [hs]; exact h8)
            have h8' : (s.kind != 8) = false := by simpa using h8
            have HKc : Hid ((calm P2).length = k) := hkc
            have HLk : Hid (k < n2) := hlt
            clear A hs h8 hk hcl hkc hlt
            go_wp2_with fail
            have HLr := hide (HLd.out.below (below_drew1 wr))
            have HKr : Hid (KSrc wr.drew (some ad) k c2 (calm P2)) := kCalm (HQ.out.2.2.s.below (hN ▸ HLr.out.bel)) HKc.out
            have HFr := hide (HFd.out.below (below_drew1 wr))
            have HFa := hide (fromAt_any bo bn bc ZB (some ad) k c2 (calm P2) wr.drew (HB.out.s.below (hN ▸ HLr.out.bel)) HB.out.cap (by have := HB.out.big; omega) HKr.out (by have h1 := calm_le P2; rw [HKc.out, HP2.out] at h1; have := HSu.out; omega) a0 HA0.out.1)
            have hk2 : k ≤ c2 := by have h1 := calm_le P2; rw [HKc.out, HP2.out] at h1; have := HQ.out.2.2.cap; omega
            refine wp_region_held_drew (S := fun W => W.cell? ⟨N0, 0, none⟩ = some (.slice bo bn bc) ∧ W.cell? ⟨N0, 4, none⟩ = some (.slice (some ad) n2 c2)) (by kernel_rfl) (⟨nb_cell HLr.out.nb 0, nb_cell HLr.out.nb 4⟩) (fun hHeld => ?_)
            refine wpAnyH_take (i := 0) (oi := { dst := some 110, op := Op.fieldAddr 54 (Operand.tmp 1) 0, type := 0, pos := "law.go:203", after := #[], guard := none }) (v := ?_) rfl (by kernel_rfl) (by kernel_rfl) (by kernel_rfl) (fun _ _ _ h => h) (Or.inl ⟨by rfl, ?_⟩) (by assumption) ?_
            rotate_left
            · (intro w hSw; (try dsimp only at hSw); go_simp); first | done | with_reducible rfl
            simp only [Act.put, List.setIfInBounds_toArray, List.set_cons_zero, List.set_cons_succ]
            refine wpAnyH_take (i := 1) (oi := { dst := some 111, op := Op.load 22 (Operand.tmp 110), type := 22, pos := "law.go:203", after := #[{ on := 0, ground := Ground.data }], guard := none }) (v := ?_) rfl (by kernel_rfl) (by kernel_rfl) (by kernel_rfl) (fun _ _ _ h => h) (Or.inl ⟨by rfl, ?_⟩) (by assumption) ?_
            rotate_left
            · (intro w hSw; (try dsimp only at hSw); have h1 := hSw.1; go_simp); first | done | with_reducible rfl
            simp only [Act.put, List.setIfInBounds_toArray, List.set_cons_zero, List.set_cons_succ]
            refine wpAnyH_take (i := 2) (oi := { dst := some 112, op := Op.move (Operand.tmp 10), type := 3, pos := "law.go:203", after := #[], guard := none }) (v := ?_) rfl (by kernel_rfl) (by kernel_rfl) (by kernel_rfl) (fun _ _ _ h => h) (Or.inl ⟨by rfl, ?_⟩) (by assumption) ?_
            rotate_left
            · (intro w hSw; (try dsimp only at hSw); go_simp); first | done | with_reducible rfl
            simp only [Act.put, List.setIfInBounds_toArray, List.set_cons_zero, List.set_cons_succ]
            refine wpAnyH_take (i := 3) (oi := { dst := some 113, op := Op.fieldAddr 54 (Operand.tmp 1) 4, type := 0, pos := "law.go:203", after := #[], guard := none }) (v := ?_) rfl (by kernel_rfl) (by kernel_rfl) (by kernel_rfl) (fun _ _ _ h => h) (Or.inl ⟨by rfl, ?_⟩) (by assumption) ?_
            rotate_left
            · (intro w hSw; (try dsimp only at hSw); go_simp); first | done | with_reducible rfl
            simp only [Act.put, List.setIfInBounds_toArray, List.set_cons_zero, List.set_cons_succ]
            refine wpAnyH_take (i := 4) (oi := { dst := some 114, op := Op.load 23 (Operand.tmp 113), type := 23, pos := "law.go:203", after := #[{ on := 3, ground := Ground.data }], guard := none }) (v := ?_) rfl (by kernel_rfl) (by kernel_rfl) (by kernel_rfl) (fun _ _ _ h => h) (Or.inl ⟨by rfl, ?_⟩) (by assumption) ?_
            rotate_left
            · (intro w hSw; (try dsimp only at hSw); have h1 := hSw.2; go_simp); first | done | with_reducible rfl
            simp only [Act.put, List.setIfInBounds_toArray, List.set_cons_zero, List.set_cons_succ]
            refine wpAnyH_take (i := 5) (oi := { dst := some 115, op := Op.move (Operand.tmp 15), type := 3, pos := "law.go:203", after := #[], guard := none }) (v := ?_) rfl (by kernel_rfl) (by kernel_rfl) (by kernel_rfl) (fun _ _ _ h => h) (Or.inl ⟨by rfl, ?_⟩) (by assumption) ?_
            rotate_left
            · (intro w hSw; (try dsimp only at hSw); go_simp); first | done | with_reducible rfl
            simp only [Act.put, List.setIfInBounds_toArray, List.set_cons_zero, List.set_cons_succ]
            refine wpAnyH_take (i := 6) (oi := { dst := some 116, op := Op.slice 23 (Operand.tmp 114) none (some (Operand.tmp 115)) none, type := 23, pos := "law.go:203", after := #[{ on := 4, ground := Ground.data }, { on := 5, ground := Ground.data }], guard := none }) (v := .slice (some ad) k c2) rfl (by kernel_rfl) (by kernel_rfl) (by kernel_rfl) (fun _ _ _ h => h) (Or.inl ⟨by rfl, ?_⟩) (by assumption) ?_
            skip
            · (intro w hSw; (try dsimp only at hSw); go_simp); first | done | with_reducible rfl
            simp only [Act.put, List.setIfInBounds_toArray, List.set_cons_zero, List.set_cons_succ]
            refine wpAnyH_ready (rs := [7]) (by kernel_rfl) (by simp) ?_
            refine AllReadyH.cons rfl (fun K hK => ?_) ?_
            rotate_left
            · exact AllReadyH.nil
            go_simp
            go_wp2_with fail
            refine HFa.out.mono ?_
            rintro r wm ⟨lm, nm, cm, xn, rfl, hFm, hx2⟩
            have HLm := hide (HLr.out.below hFm.bel)
            have HFm := hide hFm
            have HFn := hide (HFr.out.below hFm.bel)
            have HX2 := hide hx2
            refine hK.out _ _ ⟨nb_cell HLm.out.nb 0, nb_cell HLm.out.nb 4⟩ (fun hHeld => ?_)
            clear hK K hFm hx2
            refine wpAnyH_take (i := 8) (oi := { dst := some 109, op := Op.move (Operand.tmp 117), type := 55, pos := "law.go:203", after := #[{ on := 7, ground := Ground.data }], guard := none }) (v := ?_) rfl (by kernel_rfl) (by kernel_rfl) (by kernel_rfl) (fun _ _ _ h => h) (Or.inl ⟨by rfl, ?_⟩) (by assumption) ?_
            rotate_left
            · (intro w hSw; (try dsimp only at hSw); go_simp); first | done | with_reducible rfl
            simp only [Act.put, List.setIfInBounds_toArray, List.set_cons_zero, List.set_cons_succ]
            refine wpAnyH_take (i := 9) (oi := { dst := some 118, op := Op.extract (Operand.tmp 109) 0, type := 24, pos := "law.go:203", after := #[{ on := 8, ground := Ground.data }], guard := none }) (v := ?_) rfl (by kernel_rfl) (by kernel_rfl) (by kernel_rfl) (fun _ _ _ h => h) (Or.inl ⟨by rfl, ?_⟩) (by assumption) ?_
            rotate_left
            · (intro w hSw; (try dsimp only at hSw); go_simp); first | done | with_reducible rfl
            simp only [Act.put, List.setIfInBounds_toArray, List.set_cons_zero, List.set_cons_succ]
            refine wpAnyH_take (i := 10) (oi := { dst := some 119, op := Op.extract (Operand.tmp 109) 1, type := 3, pos := "law.go:203", after := #[{ on := 8, ground := Ground.data }, { on := 12, ground := Ground.gcOnly Departure.lateStores }], guard := none }) (v := ?_) rfl (by kernel_rfl) (by kernel_rfl) (by kernel_rfl) (fun _ _ _ h => h) (Or.inl ⟨by rfl, ?_⟩) (by assumption) ?_
            rotate_left
            · (intro w hSw; (try dsimp only at hSw); go_simp); first | done | with_reducible rfl
            simp only [Act.put, List.setIfInBounds_toArray, List.set_cons_zero, List.set_cons_succ]
            refine wpAnyH_take (i := 11) (oi := { dst := some 120, op := Op.extract (Operand.tmp 109) 2, type := 3, pos := "law.go:203", after := #[{ on := 8, ground := Ground.data }, { on := 13, ground := Ground.gcOnly Departure.lateStores }], guard := none }) (v := ?_) rfl (by kernel_rfl) (by kernel_rfl) (by kernel_rfl) (fun _ _ _ h => h) (Or.inl ⟨by rfl, ?_⟩) (by assumption) ?_
            rotate_left
            · (intro w hSw; (try dsimp only at hSw); go_simp); first | done | with_reducible rfl
            simp only [Act.put, List.setIfInBounds_toArray, List.set_cons_zero, List.set_cons_succ]
            refine wpAnyH_take (i := 12) (oi := { dst := some 16, op := Op.assign (Operand.tmp 118), type := 24, pos := "law.go:203", after := #[{ on := 9, ground := Ground.data }, { on := 7, ground := Ground.chain }, { on := 0, ground := Ground.phase }, { on := 1, ground := Ground.phase }, { on := 2, ground := Ground.phase }, { on := 3, ground := Ground.phase }, { on := 4, ground := Ground.phase }, { on := 5, ground := Ground.phase }, { on := 6, ground := Ground.phase }, { on := 7, ground := Ground.phase }, { on := 8, ground := Ground.phase }, { on := 9, ground := Ground.phase }, { on := 10, ground := Ground.textOnly Departure.lateStores }, { on := 11, ground := Ground.textOnly Departure.lateStores }], guard := none }) (v := ?_) rfl (by kernel_rfl) (by kernel_rfl) (by kernel_rfl) (fun _ _ _ h => h) (Or.inl ⟨by rfl, ?_⟩) (by assumption) ?_
            rotate_left
            · (intro w hSw; (try dsimp only at hSw); go_simp); first | done | with_reducible rfl
            simp only [Act.put, List.setIfInBounds_toArray, List.set_cons_zero, List.set_cons_succ]
            refine wpAnyH_take (i := 13) (oi := { dst := some 17, op := Op.assign (Operand.tmp 119), type := 3, pos := "law.go:203", after := #[{ on := 10, ground := Ground.data }, { on := 12, ground := Ground.chain }, { on := 0, ground := Ground.phase }, { on := 1, ground := Ground.phase }, { on := 2, ground := Ground.phase }, { on := 3, ground := Ground.phase }, { on := 4, ground := Ground.phase }, { on := 5, ground := Ground.phase }, { on := 6, ground := Ground.phase }, { on := 7, ground := Ground.phase }, { on := 8, ground := Ground.phase }, { on := 9, ground := Ground.phase }, { on := 10, ground := Ground.phase }, { on := 11, ground := Ground.textOnly Departure.lateStores }, { on := 12, ground := Ground.phase }], guard := none }) (v := ?_) rfl (by kernel_rfl) (by kernel_rfl) (by kernel_rfl) (fun _ _ _ h => h) (Or.inl ⟨by rfl, ?_⟩) (by assumption) ?_
            rotate_left
            · (intro w hSw; (try dsimp only at hSw); go_simp); first | done | with_reducible rfl
            simp only [Act.put, List.setIfInBounds_toArray, List.set_cons_zero, List.set_cons_succ]
            refine wpAnyH_take (i := 14) (oi := { dst := some 18, op := Op.assign (Operand.tmp 120), type := 3, pos := "law.go:203", after := #[{ on := 11, ground := Ground.data }, { on := 13, ground := Ground.chain }, { on := 0, ground := Ground.phase }, { on := 1, ground := Ground.phase }, { on := 2, ground := Ground.phase }, { on := 3, ground := Ground.phase }, { on := 4, ground := Ground.phase }, { on := 5, ground := Ground.phase }, { on := 6, ground := Ground.phase }, { on := 7, ground := Ground.phase }, { on := 8, ground := Ground.phase }, { on := 9, ground := Ground.phase }, { on := 10, ground := Ground.phase }, { on := 11, ground := Ground.phase }, { on := 12, ground := Ground.phase }, { on := 13, ground := Ground.phase }], guard := none }) (v := ?_) rfl (by kernel_rfl) (by kernel_rfl) (by kernel_rfl) (fun _ _ _ h => h) (Or.inl ⟨by rfl, ?_⟩) (by assumption) ?_
            rotate_left
            · (intro w hSw; (try dsimp only at hSw); go_simp); first | done | with_reducible rfl
            simp only [Act.put, List.setIfInBounds_toArray, List.set_cons_zero, List.set_cons_succ]
            refine wpAnyH_done (by kernel_rfl) ?_ _
            clear hHeld
            have HSm : Hid (nw + nm ≤ 4398046511004 ∧ nw + nm ≤ 2000000) := by
              have h1 := HFn.out.qr.len
              have h2 := HFm.out.qr.len
              have h3 := rdJ_len P0 ZB
              have h4 := rdJ_len (calm P2) (ZB.drop a0)
              have h5 := calm_le P2
              have h6 := HQ.out.1.s.len
              have h7 := HP2.out
              have h8 := HSu.out
              exact ⟨by omega, by omega⟩
            have hnm : nw + nm = ng := by
              have h1 := HFn.out.qr.len
              have h2 := HFm.out.qr.len
              have h3 := HLd.out.gs.len
              rw [List.length_append] at h3
              omega
            have HSn : Hid (ng ≤ 2000000) := by show _ ≤ _; have := HSm.out.2; omega
            clear HFa HLr HFr
            rcases HRt2.out with ⟨e2, rfl, hx, herr⟩ | ⟨e2, rfl, herr⟩
            · obtain ⟨a2, rfl, ha2, hd2⟩ := HX2.out e2
              rw [hd2, List.length_drop, HB.out.s.1] at herr
              rw [HKc.out, HP2.out, if_pos HLk.out] at hx
              rw [e2] at *
              clear hd2
              by_cases hca : a1 < cn
              · by_cases hab : a2 < bn
                · have hci : (a1 : Int) < (cn : Int) := by omega
                  have hbi : (a2 : Int) < (bn : Int) := by omega
                  rw [show endA (bn - a2) = 52 from if_neg (by omega)] at herr
                  subst hx herr
                  clear hca hab ha2
                  go_wp2_with (at_builtin; refine HFn.out.qr.appR HFm.out.qr HSm.out.1 rfl (.tmp 121) (.tmp 122) rfl rfl rfl ?_; intro b3 c3 w3 R3 A3; rw [hnm] at R3 ⊢; have HF3 := hide (HFn.out.app R3 A3); clear R3 A3; have hL3 := HLA.out.below HF3.out.bel; have HL3 := hide hL3; have yx := hL3.vx.c; have ye := hL3.ve.c; have yg := hL3.vg.c; have y0 : w3.cell? ⟨N0, 0, none⟩ = some (.slice bo bn bc) := nb_cell hL3.nb 0; have y1 : w3.cell? ⟨N0, 1, none⟩ = some (.slice co cn cc) := nb_cell hL3.nb 1; have y4 : w3.cell? ⟨N0, 4, none⟩ = some (.slice (some ad) n2 c2) := nb_cell hL3.nb 4; clear hL3)
                  refine (alike_any _ b3 ng c9 c3 _ w3 HL3.out.gs HF3.out.qr.src HSn.out).mono ?_
                  rintro r wz ⟨rfl, bz⟩
                  have HLz := hide (HL3.out.below bz)
                  clear bz
                  go_wp2_with fail
                  go_ret
                  exact ⟨rfl, hN ▸ HLz.out.bel⟩
                · have hci : (a1 : Int) < (cn : Int) := by omega
                  have hbi : ¬ (a2 : Int) < (bn : Int) := by omega
                  rw [show endA (bn - a2) = 0 from if_pos (by omega)] at herr
                  subst hx herr
                  clear hca hab ha2
                  go_wp2_with (at_builtin; refine HFn.out.qr.appR HFm.out.qr HSm.out.1 rfl (.tmp 121) (.tmp 122) rfl rfl rfl ?_; intro b3 c3 w3 R3 A3; rw [hnm] at R3 ⊢; have HF3 := hide (HFn.out.app R3 A3); clear R3 A3; have hL3 := HLA.out.below HF3.out.bel; have HL3 := hide hL3; have yx := hL3.vx.c; have ye := hL3.ve.c; have yg := hL3.vg.c; have y0 : w3.cell? ⟨N0, 0, none⟩ = some (.slice bo bn bc) := nb_cell hL3.nb 0; have y1 : w3.cell? ⟨N0, 1, none⟩ = some (.slice co cn cc) := nb_cell hL3.nb 1; have y4 : w3.cell? ⟨N0, 4, none⟩ = some (.slice (some ad) n2 c2) := nb_cell hL3.nb 4; clear hL3)
                  refine (alike_any _ b3 ng c9 c3 _ w3 HL3.out.gs HF3.out.qr.src HSn.out).mono ?_
                  rintro r wz ⟨rfl, bz⟩
                  have HLz := hide (HL3.out.below bz)
                  clear bz
                  go_wp2_with fail
                  go_ret
                  exact ⟨rfl, hN ▸ HLz.out.bel⟩
              · by_cases hab : a2 < bn
                · have hci : ¬ (a1 : Int) < (cn : Int) := by omega
                  have hbi : (a2 : Int) < (bn : Int) := by omega
                  rw [show endA (bn - a2) = 52 from if_neg (by omega)] at herr
                  subst hx herr
                  clear hca hab ha2
                  go_wp2_with (at_builtin; refine HFn.out.qr.appR HFm.out.qr HSm.out.1 rfl (.tmp 121) (.tmp 122) rfl rfl rfl ?_; intro b3 c3 w3 R3 A3; rw [hnm] at R3 ⊢; have HF3 := hide (HFn.out.app R3 A3); clear R3 A3; have hL3 := HLA.out.below HF3.out.bel; have HL3 := hide hL3; have yx := hL3.vx.c; have ye := hL3.ve.c; have yg := hL3.vg.c; have y0 : w3.cell? ⟨N0, 0, none⟩ = some (.slice bo bn bc) := nb_cell hL3.nb 0; have y1 : w3.cell? ⟨N0, 1, none⟩ = some (.slice co cn cc) := nb_cell hL3.nb 1; have y4 : w3.cell? ⟨N0, 4, none⟩ = some (.slice (some ad) n2 c2) := nb_cell hL3.nb 4; clear hL3)
                  refine (alike_any _ b3 ng c9 c3 _ w3 HL3.out.gs HF3.out.qr.src HSn.out).mono ?_
                  rintro r wz ⟨rfl, bz⟩
                  have HLz := hide (HL3.out.below bz)
                  clear bz
                  go_wp2_with fail
                  go_ret
                  exact ⟨rfl, hN ▸ HLz.out.bel⟩
                · have hci : ¬ (a1 : Int) < (cn : Int) := by omega
                  have hbi : ¬ (a2 : Int) < (bn : Int) := by omega
                  rw [show endA (bn - a2) = 0 from if_pos (by omega)] at herr
                  subst hx herr
                  clear hca hab ha2
                  go_wp2_with (at_builtin; refine HFn.out.qr.appR HFm.out.qr HSm.out.1 rfl (.tmp 121) (.tmp 122) rfl rfl rfl ?_; intro b3 c3 w3 R3 A3; rw [hnm] at R3 ⊢; have HF3 := hide (HFn.out.app R3 A3); clear R3 A3; have hL3 := HLA.out.below HF3.out.bel; have HL3 := hide hL3; have yx := hL3.vx.c; have ye := hL3.ve.c; have yg := hL3.vg.c; have y0 : w3.cell? ⟨N0, 0, none⟩ = some (.slice bo bn bc) := nb_cell hL3.nb 0; have y1 : w3.cell? ⟨N0, 1, none⟩ = some (.slice co cn cc) := nb_cell hL3.nb 1; have y4 : w3.cell? ⟨N0, 4, none⟩ = some (.slice (some ad) n2 c2) := nb_cell hL3.nb 4; clear hL3)
                  refine (alike_any _ b3 ng c9 c3 _ w3 HL3.out.gs HF3.out.qr.src HSn.out).mono ?_
                  rintro r wz ⟨rfl, bz⟩
                  have HLz := hide (HL3.out.below bz)
                  clear bz
                  go_wp2_with fail
                  go_ret
                  exact ⟨rfl, hN ▸ HLz.out.bel⟩
            · subst herr
              obtain ⟨ef, hef⟩ : ∃ ef, (rdT (calm P2) (ZB.drop a0)).2.1 = ef := ⟨_, rfl⟩
              rw [hef] at e2 ⊢
              have h0 : (ef != 0) = true := by simpa using e2
              clear e2 hef
              go_wp2_with (at_builtin; refine HFn.out.qr.appR HFm.out.qr HSm.out.1 rfl (.tmp 121) (.tmp 122) rfl rfl rfl ?_; intro b3 c3 w3 R3 A3; rw [hnm] at R3 ⊢; have HF3 := hide (HFn.out.app R3 A3); clear R3 A3; have hL3 := HLA.out.below HF3.out.bel; have HL3 := hide hL3; have yx := hL3.vx.c; have ye := hL3.ve.c; have yg := hL3.vg.c; have y0 : w3.cell? ⟨N0, 0, none⟩ = some (.slice bo bn bc) := nb_cell hL3.nb 0; have y1 : w3.cell? ⟨N0, 1, none⟩ = some (.slice co cn cc) := nb_cell hL3.nb 1; have y4 : w3.cell? ⟨N0, 4, none⟩ = some (.slice (some ad) n2 c2) := nb_cell hL3.nb 4; clear hL3)
              refine (alike_any _ b3 ng c9 c3 _ w3 HL3.out.gs HF3.out.qr.src HSn.out).mono ?_
              rintro r wz ⟨rfl, bz⟩
              have HLz := hide (HL3.out.below bz)
              clear bz
              go_wp2_with fail
              go_ret
              exact ⟨rfl, hN ▸ HLz.out.bel⟩
          · have hcl2 := calm_lt P2 k hk (by rw [HP2.out]; exact hlt) (by rw [hs]; exact h8)
            have h8' : (s.kind != 8) = true := by simpa using h8
            have HK1 : Hid (wrap64 ((k : Int) + 1) = ((k + 1 : Nat) : Int)) := by show _ = _; have := HSu.out; rw [w64 (by omega) (by omega)]; rfl
            have HLk : Hid (k < n2 ∧ k < (calm P2).length) := ⟨hlt, hcl2.1⟩
            clear A hs h8 hk hcl hcl2 hlt
            go_wp2_with fail
            go_roundw
            case rel => exact ⟨k + 1, HLk.out.2, (by rw [HK1.out]), trivial⟩
            case measure => rw [HK1.out]; have := HLk.out.1; simp [intOf]; omega
        · have hlt' : ¬ (k : Int) < (n2 : Int) := by omega
          have HKc : Hid ((calm P2).length = k) := by show _ = _; omega
          have HLk : Hid (¬ k < n2) := hlt
          clear hk hcl hlt
          go_wp2_with fail
          have HLr := hide (HLd.out.below (below_drew1 wr))
          have HKr : Hid (KSrc wr.drew o2 k c2 (calm P2)) := kCalm (HQ.out.2.2.s.below (hN ▸ HLr.out.bel)) HKc.out
          have HFr := hide (HFd.out.below (below_drew1 wr))
          have HFa := hide (fromAt_any bo bn bc ZB o2 k c2 (calm P2) wr.drew (HB.out.s.below (hN ▸ HLr.out.bel)) HB.out.cap (by have := HB.out.big; omega) HKr.out (by have h1 := calm_le P2; rw [HKc.out, HP2.out] at h1; have := HSu.out; omega) a0 HA0.out.1)
          have hk2 : k ≤ c2 := by have h1 := calm_le P2; rw [HKc.out, HP2.out] at h1; have := HQ.out.2.2.cap; omega
          refine wp_region_held_drew (S := fun W => W.cell? ⟨N0, 0, none⟩ = some (.slice bo bn bc) ∧ W.cell? ⟨N0, 4, none⟩ = some (.slice o2 n2 c2)) (by kernel_rfl) (⟨nb_cell HLr.out.nb 0, nb_cell HLr.out.nb 4⟩) (fun hHeld => ?_)
          refine wpAnyH_take (i := 0) (oi := { dst := some 110, op := Op.fieldAddr 54 (Operand.tmp 1) 0, type := 0, pos := "law.go:203", after := #[], guard := none }) (v := ?_) rfl (by kernel_rfl) (by kernel_rfl) (by kernel_rfl) (fun _ _ _ h => h) (Or.inl ⟨by rfl, ?_⟩) (by assumption) ?_
          rotate_left
          · (intro w hSw; (try dsimp only at hSw); go_simp); first | done | with_reducible rfl
          simp only [Act.put, List.setIfInBounds_toArray, List.set_cons_zero, List.set_cons_succ]
          refine wpAnyH_take (i := 1) (oi := { dst := some 111, op := Op.load 22 (Operand.tmp 110), type := 22, pos := "law.go:203", after := #[{ on := 0, ground := Ground.data }], guard := none }) (v := ?_) rfl (by kernel_rfl) (by kernel_rfl) (by kernel_rfl) (fun _ _ _ h => h) (Or.inl ⟨by rfl, ?_⟩) (by assumption) ?_
          rotate_left
          · (intro w hSw; (try dsimp only at hSw); have h1 := hSw.1; go_simp); first | done | with_reducible rfl
          simp only [Act.put, List.setIfInBounds_toArray, List.set_cons_zero, List.set_cons_succ]
          refine wpAnyH_take (i := 2) (oi := { dst := some 112, op := Op.move (Operand.tmp 10), type := 3, pos := "law.go:203", after := #[], guard := none }) (v := ?_) rfl (by kernel_rfl) (by kernel_rfl) (by kernel_rfl) (fun _ _ _ h => h) (Or.inl ⟨by rfl, ?_⟩) (by assumption) ?_
          rotate_left
          · (intro w hSw; (try dsimp only at hSw); go_simp); first | done | with_reducible rfl
          simp only [Act.put, List.setIfInBounds_toArray, List.set_cons_zero, List.set_cons_succ]
          refine wpAnyH_take (i := 3) (oi := { dst := some 113, op := Op.fieldAddr 54 (Operand.tmp 1) 4, type := 0, pos := "law.go:203", after := #[], guard := none }) (v := ?_) rfl (by kernel_rfl) (by kernel_rfl) (by kernel_rfl) (fun _ _ _ h => h) (Or.inl ⟨by rfl, ?_⟩) (by assumption) ?_
          rotate_left
          · (intro w hSw; (try dsimp only at hSw); go_simp); first | done | with_reducible rfl
          simp only [Act.put, List.setIfInBounds_toArray, List.set_cons_zero, List.set_cons_succ]
          refine wpAnyH_take (i := 4) (oi := { dst := some 114, op := Op.load 23 (Operand.tmp 113), type := 23, pos := "law.go:203", after := #[{ on := 3, ground := Ground.data }], guard := none }) (v := ?_) rfl (by kernel_rfl) (by kernel_rfl) (by kernel_rfl) (fun _ _ _ h => h) (Or.inl ⟨by rfl, ?_⟩) (by assumption) ?_
          rotate_left
          · (intro w hSw; (try dsimp only at hSw); have h1 := hSw.2; go_simp); first | done | with_reducible rfl
          simp only [Act.put, List.setIfInBounds_toArray, List.set_cons_zero, List.set_cons_succ]
          refine wpAnyH_take (i := 5) (oi := { dst := some 115, op := Op.move (Operand.tmp 15), type := 3, pos := "law.go:203", after := #[], guard := none }) (v := ?_) rfl (by kernel_rfl) (by kernel_rfl) (by kernel_rfl) (fun _ _ _ h => h) (Or.inl ⟨by rfl, ?_⟩) (by assumption) ?_
          rotate_left
          · (intro w hSw; (try dsimp only at hSw); go_simp); first | done | with_reducible rfl
          simp only [Act.put, List.setIfInBounds_toArray, List.set_cons_zero, List.set_cons_succ]
          refine wpAnyH_take (i := 6) (oi := { dst := some 116, op := Op.slice 23 (Operand.tmp 114) none (some (Operand.tmp 115)) none, type := 23, pos := "law.go:203", after := #[{ on := 4, ground := Ground.data }, { on := 5, ground := Ground.data }], guard := none }) (v := .slice o2 k c2) rfl (by kernel_rfl) (by kernel_rfl) (by kernel_rfl) (fun _ _ _ h => h) (Or.inl ⟨by rfl, ?_⟩) (by assumption) ?_
          skip
          · (intro w hSw; (try dsimp only at hSw); go_simp); first | done | with_reducible rfl
          simp only [Act.put, List.setIfInBounds_toArray, List.set_cons_zero, List.set_cons_succ]
          refine wpAnyH_ready (rs := [7]) (by kernel_rfl) (by simp) ?_
          refine AllReadyH.cons rfl (fun K hK => ?_) ?_
          rotate_left
          · exact AllReadyH.nil
          go_simp
          go_wp2_with fail
          refine HFa.out.mono ?_
          rintro r wm ⟨lm, nm, cm, xn, rfl, hFm, hx2⟩
          have HLm := hide (HLr.out.below hFm.bel)
          have HFm := hide hFm
          have HFn := hide (HFr.out.below hFm.bel)
          have HX2 := hide hx2
          refine hK.out _ _ ⟨nb_cell HLm.out.nb 0, nb_cell HLm.out.nb 4⟩ (fun hHeld => ?_)
          clear hK K hFm hx2
          refine wpAnyH_take (i := 8) (oi := { dst := some 109, op := Op.move (Operand.tmp 117), type := 55, pos := "law.go:203", after := #[{ on := 7, ground := Ground.data }], guard := none }) (v := ?_) rfl (by kernel_rfl) (by kernel_rfl) (by kernel_rfl) (fun _ _ _ h => h) (Or.inl ⟨by rfl, ?_⟩) (by assumption) ?_
          rotate_left
          · (intro w hSw; (try dsimp only at hSw); go_simp); first | done | with_reducible rfl
          simp only [Act.put, List.setIfInBounds_toArray, List.set_cons_zero, List.set_cons_succ]
          refine wpAnyH_take (i := 9) (oi := { dst := some 118, op := Op.extract (Operand.tmp 109) 0, type := 24, pos := "law.go:203", after := #[{ on := 8, ground := Ground.data }], guard := none }) (v := ?_) rfl (by kernel_rfl) (by kernel_rfl) (by kernel_rfl) (fun _ _ _ h => h) (Or.inl ⟨by rfl, ?_⟩) (by assumption) ?_
          rotate_left
          · (intro w hSw; (try dsimp only at hSw); go_simp); first | done | with_reducible rfl
          simp only [Act.put, List.setIfInBounds_toArray, List.set_cons_zero, List.set_cons_succ]
          refine wpAnyH_take (i := 10) (oi := { dst := some 119, op := Op.extract (Operand.tmp 109) 1, type := 3, pos := "law.go:203", after := #[{ on := 8, ground := Ground.data }, { on := 12, ground := Ground.gcOnly Departure.lateStores }], guard := none }) (v := ?_) rfl (by kernel_rfl) (by kernel_rfl) (by kernel_rfl) (fun _ _ _ h => h) (Or.inl ⟨by rfl, ?_⟩) (by assumption) ?_
          rotate_left
          · (intro w hSw; (try dsimp only at hSw); go_simp); first | done | with_reducible rfl
          simp only [Act.put, List.setIfInBounds_toArray, List.set_cons_zero, List.set_cons_succ]
          refine wpAnyH_take (i := 11) (oi := { dst := some 120, op := Op.extract (Operand.tmp 109) 2, type := 3, pos := "law.go:203", after := #[{ on := 8, ground := Ground.data }, { on := 13, ground := Ground.gcOnly Departure.lateStores }], guard := none }) (v := ?_) rfl (by kernel_rfl) (by kernel_rfl) (by kernel_rfl) (fun _ _ _ h => h) (Or.inl ⟨by rfl, ?_⟩) (by assumption) ?_
          rotate_left
          · (intro w hSw; (try dsimp only at hSw); go_simp); first | done | with_reducible rfl
          simp only [Act.put, List.setIfInBounds_toArray, List.set_cons_zero, List.set_cons_succ]
          refine wpAnyH_take (i := 12) (oi := { dst := some 16, op := Op.assign (Operand.tmp 118), type := 24, pos := "law.go:203", after := #[{ on := 9, ground := Ground.data }, { on := 7, ground := Ground.chain }, { on := 0, ground := Ground.phase }, { on := 1, ground := Ground.phase }, { on := 2, ground := Ground.phase }, { on := 3, ground := Ground.phase }, { on := 4, ground := Ground.phase }, { on := 5, ground := Ground.phase }, { on := 6, ground := Ground.phase }, { on := 7, ground := Ground.phase }, { on := 8, ground := Ground.phase }, { on := 9, ground := Ground.phase }, { on := 10, ground := Ground.textOnly Departure.lateStores }, { on := 11, ground := Ground.textOnly Departure.lateStores }], guard := none }) (v := ?_) rfl (by kernel_rfl) (by kernel_rfl) (by kernel_rfl) (fun _ _ _ h => h) (Or.inl ⟨by rfl, ?_⟩) (by assumption) ?_
          rotate_left
          · (intro w hSw; (try dsimp only at hSw); go_simp); first | done | with_reducible rfl
          simp only [Act.put, List.setIfInBounds_toArray, List.set_cons_zero, List.set_cons_succ]
          refine wpAnyH_take (i := 13) (oi := { dst := some 17, op := Op.assign (Operand.tmp 119), type := 3, pos := "law.go:203", after := #[{ on := 10, ground := Ground.data }, { on := 12, ground := Ground.chain }, { on := 0, ground := Ground.phase }, { on := 1, ground := Ground.phase }, { on := 2, ground := Ground.phase }, { on := 3, ground := Ground.phase }, { on := 4, ground := Ground.phase }, { on := 5, ground := Ground.phase }, { on := 6, ground := Ground.phase }, { on := 7, ground := Ground.phase }, { on := 8, ground := Ground.phase }, { on := 9, ground := Ground.phase }, { on := 10, ground := Ground.phase }, { on := 11, ground := Ground.textOnly Departure.lateStores }, { on := 12, ground := Ground.phase }], guard := none }) (v := ?_) rfl (by kernel_rfl) (by kernel_rfl) (by kernel_rfl) (fun _ _ _ h => h) (Or.inl ⟨by rfl, ?_⟩) (by assumption) ?_
          rotate_left
          · (intro w hSw; (try dsimp only at hSw); go_simp); first | done | with_reducible rfl
          simp only [Act.put, List.setIfInBounds_toArray, List.set_cons_zero, List.set_cons_succ]
          refine wpAnyH_take (i := 14) (oi := { dst := some 18, op := Op.assign (Operand.tmp 120), type := 3, pos := "law.go:203", after := #[{ on := 11, ground := Ground.data }, { on := 13, ground := Ground.chain }, { on := 0, ground := Ground.phase }, { on := 1, ground := Ground.phase }, { on := 2, ground := Ground.phase }, { on := 3, ground := Ground.phase }, { on := 4, ground := Ground.phase }, { on := 5, ground := Ground.phase }, { on := 6, ground := Ground.phase }, { on := 7, ground := Ground.phase }, { on := 8, ground := Ground.phase }, { on := 9, ground := Ground.phase }, { on := 10, ground := Ground.phase }, { on := 11, ground := Ground.phase }, { on := 12, ground := Ground.phase }, { on := 13, ground := Ground.phase }], guard := none }) (v := ?_) rfl (by kernel_rfl) (by kernel_rfl) (by kernel_rfl) (fun _ _ _ h => h) (Or.inl ⟨by rfl, ?_⟩) (by assumption) ?_
          rotate_left
          · (intro w hSw; (try dsimp only at hSw); go_simp); first | done | with_reducible rfl
          simp only [Act.put, List.setIfInBounds_toArray, List.set_cons_zero, List.set_cons_succ]
          refine wpAnyH_done (by kernel_rfl) ?_ _
          clear hHeld
          have HSm : Hid (nw + nm ≤ 4398046511004 ∧ nw + nm ≤ 2000000) := by
            have h1 := HFn.out.qr.len
            have h2 := HFm.out.qr.len
            have h3 := rdJ_len P0 ZB
            have h4 := rdJ_len (calm P2) (ZB.drop a0)
            have h5 := calm_le P2
            have h6 := HQ.out.1.s.len
            have h7 := HP2.out
            have h8 := HSu.out
            exact ⟨by omega, by omega⟩
          have hnm : nw + nm = ng := by
            have h1 := HFn.out.qr.len
            have h2 := HFm.out.qr.len
            have h3 := HLd.out.gs.len
            rw [List.length_append] at h3
            omega
          have HSn : Hid (ng ≤ 2000000) := by show _ ≤ _; have := HSm.out.2; omega
          clear HFa HLr HFr
          rcases HRt2.out with ⟨e2, rfl, hx, herr⟩ | ⟨e2, rfl, herr⟩
          · obtain ⟨a2, rfl, ha2, hd2⟩ := HX2.out e2
            rw [hd2, List.length_drop, HB.out.s.1] at herr
            rw [HKc.out, HP2.out, if_neg HLk.out] at hx
            rw [e2] at *
            clear hd2
            by_cases hca : a1 < cn
            · by_cases hab : a2 < bn
              · have hci : (a1 : Int) < (cn : Int) := by omega
                have hbi : (a2 : Int) < (bn : Int) := by omega
                rw [show endA (bn - a2) = 52 from if_neg (by omega)] at herr
                rw [show endA (cn - a1) = 52 from if_neg (by omega)] at hx
                subst hx herr
                clear hca hab ha2
                go_wp2_with (at_builtin; refine HFn.out.qr.appR HFm.out.qr HSm.out.1 rfl (.tmp 121) (.tmp 122) rfl rfl rfl ?_; intro b3 c3 w3 R3 A3; rw [hnm] at R3 ⊢; have HF3 := hide (HFn.out.app R3 A3); clear R3 A3; have hL3 := HLA.out.below HF3.out.bel; have HL3 := hide hL3; have yx := hL3.vx.c; have ye := hL3.ve.c; have yg := hL3.vg.c; have y0 : w3.cell? ⟨N0, 0, none⟩ = some (.slice bo bn bc) := nb_cell hL3.nb 0; have y1 : w3.cell? ⟨N0, 1, none⟩ = some (.slice co cn cc) := nb_cell hL3.nb 1; have y4 : w3.cell? ⟨N0, 4, none⟩ = some (.slice o2 n2 c2) := nb_cell hL3.nb 4; clear hL3)
                refine (alike_any _ b3 ng c9 c3 _ w3 HL3.out.gs HF3.out.qr.src HSn.out).mono ?_
                rintro r wz ⟨rfl, bz⟩
                have HLz := hide (HL3.out.below bz)
                clear bz
                go_wp2_with fail
                go_ret
                exact ⟨rfl, hN ▸ HLz.out.bel⟩
              · have hci : (a1 : Int) < (cn : Int) := by omega
                have hbi : ¬ (a2 : Int) < (bn : Int) := by omega
                rw [show endA (bn - a2) = 0 from if_pos (by omega)] at herr
                rw [show endA (cn - a1) = 52 from if_neg (by omega)] at hx
                subst hx herr
                clear hca hab ha2
                go_wp2_with (at_builtin; refine HFn.out.qr.appR HFm.out.qr HSm.out.1 rfl (.tmp 121) (.tmp 122) rfl rfl rfl ?_; intro b3 c3 w3 R3 A3; rw [hnm] at R3 ⊢; have HF3 := hide (HFn.out.app R3 A3); clear R3 A3; have hL3 := HLA.out.below HF3.out.bel; have HL3 := hide hL3; have yx := hL3.vx.c; have ye := hL3.ve.c; have yg := hL3.vg.c; have y0 : w3.cell? ⟨N0, 0, none⟩ = some (.slice bo bn bc) := nb_cell hL3.nb 0; have y1 : w3.cell? ⟨N0, 1, none⟩ = some (.slice co cn cc) := nb_cell hL3.nb 1; have y4 : w3.cell? ⟨N0, 4, none⟩ = some (.slice o2 n2 c2) := nb_cell hL3.nb 4; clear hL3)
                refine (alike_any _ b3 ng c9 c3 _ w3 HL3.out.gs HF3.out.qr.src HSn.out).mono ?_
                rintro r wz ⟨rfl, bz⟩
                have HLz := hide (HL3.out.below bz)
                clear bz
                go_wp2_with fail
                go_ret
                exact ⟨rfl, hN ▸ HLz.out.bel⟩
            · by_cases hab : a2 < bn
              · have hci : ¬ (a1 : Int) < (cn : Int) := by omega
                have hbi : (a2 : Int) < (bn : Int) := by omega
                rw [show endA (bn - a2) = 52 from if_neg (by omega)] at herr
                rw [show endA (cn - a1) = 0 from if_pos (by omega)] at hx
                subst hx herr
                clear hca hab ha2
                go_wp2_with (at_builtin; refine HFn.out.qr.appR HFm.out.qr HSm.out.1 rfl (.tmp 121) (.tmp 122) rfl rfl rfl ?_; intro b3 c3 w3 R3 A3; rw [hnm] at R3 ⊢; have HF3 := hide (HFn.out.app R3 A3); clear R3 A3; have hL3 := HLA.out.below HF3.out.bel; have HL3 := hide hL3; have yx := hL3.vx.c; have ye := hL3.ve.c; have yg := hL3.vg.c; have y0 : w3.cell? ⟨N0, 0, none⟩ = some (.slice bo bn bc) := nb_cell hL3.nb 0; have y1 : w3.cell? ⟨N0, 1, none⟩ = some (.slice co cn cc) := nb_cell hL3.nb 1; have y4 : w3.cell? ⟨N0, 4, none⟩ = some (.slice o2 n2 c2) := nb_cell hL3.nb 4; clear hL3)
                refine (alike_any _ b3 ng c9 c3 _ w3 HL3.out.gs HF3.out.qr.src HSn.out).mono ?_
                rintro r wz ⟨rfl, bz⟩
                have HLz := hide (HL3.out.below bz)
                clear bz
                go_wp2_with fail
                go_ret
                exact ⟨rfl, hN ▸ HLz.out.bel⟩
              · have hci : ¬ (a1 : Int) < (cn : Int) := by omega
                have hbi : ¬ (a2 : Int) < (bn : Int) := by omega
                rw [show endA (bn - a2) = 0 from if_pos (by omega)] at herr
                rw [show endA (cn - a1) = 0 from if_pos (by omega)] at hx
                subst hx herr
                clear hca hab ha2
                go_wp2_with (at_builtin; refine HFn.out.qr.appR HFm.out.qr HSm.out.1 rfl (.tmp 121) (.tmp 122) rfl rfl rfl ?_; intro b3 c3 w3 R3 A3; rw [hnm] at R3 ⊢; have HF3 := hide (HFn.out.app R3 A3); clear R3 A3; have hL3 := HLA.out.below HF3.out.bel; have HL3 := hide hL3; have yx := hL3.vx.c; have ye := hL3.ve.c; have yg := hL3.vg.c; have y0 : w3.cell? ⟨N0, 0, none⟩ = some (.slice bo bn bc) := nb_cell hL3.nb 0; have y1 : w3.cell? ⟨N0, 1, none⟩ = some (.slice co cn cc) := nb_cell hL3.nb 1; have y4 : w3.cell? ⟨N0, 4, none⟩ = some (.slice o2 n2 c2) := nb_cell hL3.nb 4; clear hL3)
                refine (alike_any _ b3 ng c9 c3 _ w3 HL3.out.gs HF3.out.qr.src HSn.out).mono ?_
                rintro r wz ⟨rfl, bz⟩
                have HLz := hide (HL3.out.below bz)
                clear bz
                go_wp2_with fail
                go_ret
                exact ⟨rfl, hN ▸ HLz.out.bel⟩
          · subst herr
            obtain ⟨ef, hef⟩ : ∃ ef, (rdT (calm P2) (ZB.drop a0)).2.1 = ef := ⟨_, rfl⟩
            rw [hef] at e2 ⊢
            have h0 : (ef != 0) = true := by simpa using e2
            clear e2 hef
            go_wp2_with (at_builtin; refine HFn.out.qr.appR HFm.out.qr HSm.out.1 rfl (.tmp 121) (.tmp 122) rfl rfl rfl ?_; intro b3 c3 w3 R3 A3; rw [hnm] at R3 ⊢; have HF3 := hide (HFn.out.app R3 A3); clear R3 A3; have hL3 := HLA.out.below HF3.out.bel; have HL3 := hide hL3; have yx := hL3.vx.c; have ye := hL3.ve.c; have yg := hL3.vg.c; have y0 : w3.cell? ⟨N0, 0, none⟩ = some (.slice bo bn bc) := nb_cell hL3.nb 0; have y1 : w3.cell? ⟨N0, 1, none⟩ = some (.slice co cn cc) := nb_cell hL3.nb 1; have y4 : w3.cell? ⟨N0, 4, none⟩ = some (.slice o2 n2 c2) := nb_cell hL3.nb 4; clear hL3)
            refine (alike_any _ b3 ng c9 c3 _ w3 HL3.out.gs HF3.out.qr.src HSn.out).mono ?_
            rintro r wz ⟨rfl, bz⟩
            have HLz := hide (HL3.out.below bz)
            clear bz
            go_wp2_with fail
            go_ret
            exact ⟨rfl, hN ▸ HLz.out.bel⟩
end Go.Proofs.Ytflinfmhmokfhaa
