/- WireWrites: the law. -/
import Derived.Test.YtebedjhfdncabaaYWm
import Derived.Lib.SlBytesConst
namespace Go.Proofs.Ytebedjhfdncabaa
open Go.RowKit
variable {w w' w2 w0 : World} {g : Nat} {col : Nat → Nat} {s : Ws} {lim : Nat}
attribute [local go_sem ↓] ldP_eq stP_eq ldQ_eq stQ_eq sW_eq sN_eq sB_eq
attribute [local go_sem] PC_size fold_PC

theorem and3 (x : Int) : ∃ k : Nat, k < 4 ∧ bits .and .i64 x 3 = (k : Int) := by
  have h : (BitVec.ofInt 64 x &&& BitVec.ofInt 64 3).toNat ≤ 3 := by
    rw [BitVec.toNat_and]
    exact Nat.and_le_right
  refine ⟨(BitVec.ofInt 64 x &&& BitVec.ofInt 64 3).toNat, by omega, ?_⟩
  show IntKind.i64.wrap ((BitVec.ofInt 64 x &&& BitVec.ofInt 64 3).toNat : Int) = _
  rw [IntKind.wrap_i64]
  omega
set_option maxRecDepth 100000 in
set_option maxHeartbeats 0 in
theorem wireWrites_any (ao : Option Addr) (m c : Nat) (L : List Stp) (w0 : World) (S : QSrc w0 ao m c L) : Calls Try.prog 3 #[.slice ao m c] w0 fun r w' => r = .returned (.bool true) ∧ Below w0.heap.size w0 w' := by
  have HS := hide S
  clear S
  obtain ⟨q, hq⟩ : ∃ q, w0.heap.size = q := ⟨_, rfl⟩
  have HQ := hide hq
  go_enter Try.func3, Try.ntmps3
  go_wp2_with fail
  refine (new_at w0 q HQ.out).mono ?_
  rintro r w1 ⟨rfl, W0, b1, z1⟩
  clear hq
  have H1 := hide (And.intro W0 (And.intro b1 z1))
  clear W0 b1 z1
  go_wp2_with fail
  refine (new_at w1 (q + 1) H1.out.2.2).mono ?_
  rintro r w2 ⟨rfl, W1, b2, z2⟩
  have H2 : Hid (Wr w2 q none 0 0 [] false ∧ Wr w2 (q + 1) none 0 0 [] false ∧ Below w0.heap.size w0 w2 ∧ w2.heap.size = q + 2) := ⟨H1.out.1.below b2, W1, H1.out.2.1.trans (b2.mono H1.out.2.1.size), z2⟩
  clear W1 b2 z2
  go_wp2_with fail
  refine (new_at w2 (q + 2) H2.out.2.2.2).mono ?_
  rintro r w3 ⟨rfl, W2, b3, z3⟩
  have H3 : Hid (Wr w3 q none 0 0 [] false ∧ Wr w3 (q + 1) none 0 0 [] false ∧ Wr w3 (q + 2) none 0 0 [] false ∧ Below w0.heap.size w0 w3 ∧ w3.heap.size = q + 3) := ⟨H2.out.1.below b3, H2.out.2.1.below b3, W2, H2.out.2.2.1.trans (b3.mono H2.out.2.2.1.size), z3⟩
  clear W2 b3 z3
  go_wp2_with fail
  refine (new_at w3 (q + 3) H3.out.2.2.2.2).mono ?_
  rintro r w4 ⟨rfl, W3, b4, z4⟩
  obtain ⟨gw, hgw⟩ : ∃ gw, q + 4 = gw := ⟨_, rfl⟩
  obtain ⟨w5, hst5, P5, b5, z5⟩ := made4 25 (by kernel_rfl) w4 (fun _ => .pointer none) (fun k => ptr (q + k)) (by intro v hv; simp [A4] at hv; rcases hv with rfl | rfl | rfl | rfl <;> rfl) gw (z4.trans hgw)
  have H5 : Hid ((∀ k, k < 4 → Wr w5 (q + k) none 0 0 [] false) ∧ Below w0.heap.size w0 w5 ∧ w5.heap.size = q + 5 ∧ q + 4 = gw) := by
    have hb := H3.out.2.2.2.1.trans (b4.mono H3.out.2.2.2.1.size)
    refine ⟨fun k hk => ?_, hb.trans (b5.mono hb.size), by omega, hgw⟩
    match k, hk with
    | 0, _ => exact (H3.out.1.below b4).below b5
    | 1, _ => exact (H3.out.2.1.below b4).below b5
    | 2, _ => exact (H3.out.2.2.1.below b4).below b5
    | 3, _ => exact W3.below b5
  have HP5 := hide P5
  have z4' := z4.trans hgw
  rw [sW_eq] at hst5
  simp only [A4, Nat.add_zero] at hst5
  clear W3 b4 b5 z5 P5 H1 H2 H3 z4 hgw
  go_wp2_with fail
  clear hst5 z4'
  go_loopw [4] (fun i wr => ∃ k : Nat, k ≤ 4 ∧ i = .int .i64 k ∧ wr = w5) (fun i _ => 4 - (intOf i).toNat)
  case atStart => exact ⟨0, Nat.zero_le _, rfl, rfl⟩
  case round =>
    obtain ⟨k, hk, rfl, rfl⟩ := hrel
    by_cases hlt : k < 4
    · have x := HP5.out.at k hlt
      have HLT := hide hlt
      go_wp2_with fail
      go_roundw
      case rel => exact ⟨k + 1, HLT.out, by simp, trivial⟩
      case measure => have := HLT.out; simp [intOf]; omega
    · have x0 := HP5.out.at 0 (by omega)
      simp only [Nat.add_zero] at x0
      go_wp2_with fail
      refine (wnum_any none 0 0 [] false 300 wr (H5.out.1 0 (by omega)) (fun h => by cases h) (by omega) (by omega)).mono ?_
      rintro r w6 ⟨rfl, bo, m6, c6, W6, -, K6⟩
      have HW6 : Hid (Wr w6 q bo m6 c6 (numB 300) false ∧ Kp wr w6 q none bo) := ⟨by simpa using W6, by simpa using K6⟩
      have x6 : w6.cell? ⟨gw, 0, none⟩ = some (ptr q) := by
        have e : w6.heap[gw]? = wr.heap[gw]? := HW6.out.2.block gw (by have := H5.out.2.2; omega) (by have := H5.out.2.2; omega) (fun e => by cases e)
        rw [World.cell?_of_block (w := wr) (w' := w6) (a := ⟨gw, 0, none⟩) e]
        exact x0
      clear W6 K6
      go_wp2_with fail
      refine (done_ok bo m6 c6 (numB 300) w6 HW6.out.1 (by rw [← HW6.out.1.row.len, n300]; decide)).mono ?_
      rintro r w7 ⟨b7, c7, rfl, B7, N7⟩
      have hcv := B7.str
      rw [e300] at hcv
      obtain ⟨s6, hs6⟩ : ∃ s6, w6.heap.size = s6 := ⟨_, rfl⟩
      obtain ⟨s7, hs7⟩ : ∃ s7, w7.heap.size = s7 := ⟨_, rfl⟩
      obtain ⟨w8, hw8⟩ : ∃ w8, w8 = w7.alloc (.cells #[.int .u8 172, .int .u8 2] 5 (2, 3)) := ⟨_, rfl⟩
      have hs8 : w8.heap.size = s7 + 1 := by rw [hw8]; simp [hs7]
      obtain ⟨gn, hgn⟩ : ∃ gn, s7 + 1 = gn := ⟨_, rfl⟩
      obtain ⟨w9, hst9, P9, b9, z9⟩ := made4 31 (by kernel_rfl) w8 (fun _ => .slice none 0 0) (ws0 q s7).uv (by intro v hv; simp [A4, ws0] at hv; rcases hv with rfl | rfl <;> rfl) gn (hs8.trans hgn)
      have hs9 : w9.heap.size = s7 + 2 := by omega
      obtain ⟨gb, hgb⟩ : ∃ gb, s7 + 2 = gb := ⟨_, rfl⟩
      obtain ⟨wA, hstA, PA, bA, zA⟩ := made4 32 (by kernel_rfl) w9 (fun _ => .bool false) (fun _ => .bool false) (by intro v hv; simp [A4] at hv; subst hv; rfl) gb (hs9.trans hgb)
      have HLI : Hid (LI w0 wA gw gn gb 0 (.slice none 0 0) (.slice none 0 0)) := by
        subst hgn hgb
        obtain ⟨h1, h2⟩ := WI.start HQ.out H5.out.1 (by have := H5.out.2.2.2; rw [this]; exact HP5.out) H5.out.2.1 H5.out.2.2.1 HW6.out.1 HW6.out.2 hs6 N7.1 hs7 hw8 P9 b9 z9 PA bA
        exact ⟨_, _, by simpa using h1, h2, H5.out.2.2.2, rfl, rfl, rfl, rfl, Nat.zero_le _⟩
      have hs8' := hs8.trans hgn
      have hs9' := hs9.trans hgb
      have hw8' := hw8.symm
      have kc := Lib.run_convert_bytes_const (P := Try.prog) w7 27 5 #[.int .u8 172, .int .u8 2] 2 2 Try.underlying27 Try.underlying5
      have kc2 : (#[Value.int .u8 172, Value.int .u8 2] : Array Value).size = 2 := rfl
      rw [kc2] at kc
      simp only [Nat.reduceAdd] at kc
      rw [hw8', hs7] at kc
      rw [sN_eq] at hst9
      rw [sB_eq] at hstA
      simp only [A4, ws0, if_true, Nat.reduceEqDiff, if_false] at hst9
      simp only [A4] at hstA
      clear B7 N7 hs6 hw8 hs8 hgn P9 b9 z9 hs9 hgb PA bA zA x0
      go_wp2_with fail
      clear hw8' kc2 hs7 hs8' hs9' hcv x6 HW6 HP5 H5
      go_loopw [9, 10, 11] (fun v9 v10 i wr => ∃ k : Nat, k ≤ m ∧ i = .int .i64 k ∧ Hid (LI w0 wr gw gn gb k v9 v10)) (fun _ _ i _ => m - (intOf i).toNat)
      case atStart => exact ⟨0, Nat.zero_le _, rfl, HLI⟩
      case round =>
        clear HLI
        obtain ⟨k2, hk2, rfl, HI⟩ := hrel
        by_cases hlt2 : k2 < m
        · have HK1 : Hid (wrap64 ((k2 : Int) + 1) = ((k2 + 1 : Nat) : Int)) := by show _ = _; have := HS.out.big; rw [w64 (by omega) (by omega)]; rfl
          have HLT := hide hlt2
          obtain ⟨col, s, I, R, e1, e2, e3, e4, e5, hA⟩ := HI.out
          clear HI
          obtain ⟨bb, oo, rfl, A0⟩ := (HS.out.below I.below).at k2 hlt2
          have hE := HS.out.each k2 hlt2
          obtain ⟨⟨z, kd, n, b, tx⟩, hst⟩ : ∃ st, L.getD k2 q0 = st := ⟨_, rfl⟩
          rw [hst] at A0 hE
          simp only at hE
          have HE := hide hE
          have hld := run_laQ A0
          obtain ⟨g1, hg1⟩ : ∃ g1, wr.heap.size = g1 := ⟨_, rfl⟩
          obtain ⟨wq, hstq0, Q1, bq, zq⟩ := madeQ wr ⟨z, kd, n, b, tx⟩ g1 hg1
          have hstq : (stQ (.pointer (some ⟨g1, 0, none⟩)) (.agg (QC ⟨z, kd, n, b, tx⟩))).run Try.prog (wr.alloc (.cells #[.int .i64 0, .int .i64 0, .int .i64 0, .bool false, .string ⟨#[]⟩] 36)) = .ok () wq := hstq0
          clear hstq0
          obtain ⟨kk, hkk, hz3⟩ := and3 z
          have hkk4 : (kk : Int) < 4 := by omega
          have y0 := Q1.c0
          have y1 := Q1.c1
          simp only at y0 y1
          have I1 := I.below' bq 15
          have xw : wq.cell? ⟨gw, kk, none⟩ = some (ptr (s.g kk)) := by rw [← e1]; exact I1.pw.at kk hkk
          have xb : wq.cell? ⟨gb, kk, none⟩ = some (.bool (s.bad kk)) := by rw [← e3]; exact I1.pb.at kk hkk
          obtain ⟨ao2, n2, c2, W2, hn2, hb2⟩ := (I1.wr kk hkk).ex
          have HB2 : Hid (n2 ≤ 140737488355000 - 1048600) := by
            show _ ≤ _
            rw [← W2.row.len]
            have h1 := (I1.wr kk hkk).len
            have h2 := HS.out.big
            have h3 := HLT.out
            omega
          have HEQ : Hid (s.gw = gw ∧ s.gn = gn ∧ s.gb = gb ∧ s.As.length ≤ k2 ∧ s.As.length ≤ 1048576) := ⟨e1, e2, e3, hA, by have := HS.out.big; omega⟩
          subst e4 e5
          have HR := hide R
          have HI1 := hide I1
          have HW2 := hide W2
          have HN2 := hide (And.intro hn2 hb2)
          have HQ1 := hide Q1
          have HBQ := hide bq
          clear R I1 I W2 hn2 hb2 Q1 A0 hst hE e1 e2 e3 hA bq
          by_cases h5 : kd = 5
          · subst h5
            cases hbad : s.bad kk with
            | true =>
              rw [hbad] at xb
              have hsp : s.sp kk = true := by rw [← (HR.out.eq kk hkk).1, hbad]
              rw [hsp] at HW2
              have HC := hide (done_sp ao2 n2 c2 _ wq HW2.out)
              have hcv0 := 0
              have hcv : ∀ j, (convert 27 9 (.slice none 0 0)).run Try.prog (wq.drewN j) = .ok (.string (strOfNums [])) (wq.drewN j) := fun j => (UK.nil (col := col) 14).str
              go_wp2_with fail
              refine HC.out.mono ?_
              rintro r w3 ⟨rfl, rfl⟩
              clear hcv0
              go_wp2_with fail
              go_quiet (fail)
              clear hcv HC y0 y1 xw xb
              have HT : Hid (WI w0 (w3.drewN nq) (nc w3 (nc wr col 15) 14) s (2 + k2 * 1048600) ∧ UK (w3.drewN nq) (nc w3 (nc wr col 15) 14) 14 (.slice none 0 0) []) := ⟨HI1.out.below' (below_drewN _ _) 14, UK.nil 14⟩
              generalize w3.drewN nq = wd at HT ⊢
              go_wp2_with (first | (at_builtin; refine appA HT.out.1.ans.1 rfl (by have := HEQ.out.2.2.2.2; omega) rfl (.tmp 104) (.tmp 106) rfl rfl rfl ?_; intro v2 wB O2 G2; obtain ⟨hcv2, OC, hZl, hfin⟩ := LI.grown HT.out.1 HR.out HEQ.out.2.2.2.1 HT.out.2 O2 G2; have HOC := hide (And.intro OC hZl); have HFIN := hide hfin; clear O2 G2 OC hZl hfin) | (at_builtin; refine appC HOC.out.1 rfl (by have := HOC.out.2; have := HLT.out; have := HS.out.big; omega) rfl (.tmp 108) (.tmp 111) rfl rfl rfl ?_; intro v3 wC O3 G3; have HLI2 := hide (HFIN.out v3 wC O3 G3); clear O3 G3))
              rw [HEQ.out.1, HEQ.out.2.1, HEQ.out.2.2.1] at HLI2
              go_roundw
              case rel => exact ⟨k2 + 1, HLT.out, by rw [HK1.out], HLI2⟩
              case measure => rw [HK1.out]; have := HLT.out; simp [intOf]; omega
            | false =>
              rw [hbad] at xb
              have hsp : s.sp kk = false := by rw [← (HR.out.eq kk hkk).1, hbad]
              rw [hsp] at HW2
              have HC := hide (done_ok ao2 n2 c2 _ wq HW2.out (by have := HB2.out; omega))
              have HZU := hide ((HR.out.eq kk hkk).2 hsp)
              go_wp2_with fail
              refine HC.out.mono ?_
              rintro r w3 ⟨bo3, cc3, rfl, B3, N3⟩
              have I3 := HI1.out.below' N3.1 14
              have U3 : UK w3 (nc wq (nc wr col 15) 14) 14 (.slice bo3 n2 cc3) (s.Z kk) := UK.new 14 B3 N3
              have hcv : ∀ j, (convert 27 9 (.slice bo3 n2 cc3)).run Try.prog (w3.drewN j) = .ok (.string (strOfNums (s.Z kk))) (w3.drewN j) := fun j => (U3.keep (C := fun _ => False) (St.of_below (below_drewN w3 j)) id 14).str
              have hcw : ∀ j, (convert 27 9 (s.uv kk)).run Try.prog (w3.drewN j) = .ok (.string (strOfNums (s.Z kk))) (w3.drewN j) := fun j => by
                rw [HZU.out]
                exact ((I3.un kk hkk).1.keep (C := fun _ => False) (St.of_below (below_drewN w3 j)) id 14).str
              have xn : w3.cell? ⟨gn, kk, none⟩ = some (s.uv kk) := by rw [← HEQ.out.2.1]; exact I3.pn.at kk hkk
              have xb3 : w3.cell? ⟨gb, kk, none⟩ = some (.bool false) := by rw [← hbad, ← HEQ.out.2.2.1]; exact I3.pb.at kk hkk
              have HI3 := hide (And.intro I3 U3)
              clear I3 U3 B3 N3 hld y0 y1 xw xb HC
              go_wp2_with fail
              go_quiet (fail)
              clear hcv hcw xn xb3
              have HT : Hid (WI w0 (w3.drewN nq) (nc w3 (nc wq (nc wr col 15) 14) 14) s (2 + k2 * 1048600) ∧ UK (w3.drewN nq) (nc w3 (nc wq (nc wr col 15) 14) 14) 14 (.slice bo3 n2 cc3) (s.Z kk)) := ⟨HI3.out.1.below' (below_drewN _ _) 14, HI3.out.2.keep (C := fun _ => False) (St.of_below (below_drewN w3 nq)) id 14⟩
              generalize w3.drewN nq = wd at HT ⊢
              go_wp2_with (first | (at_builtin; refine appA HT.out.1.ans.1 rfl (by have := HEQ.out.2.2.2.2; omega) rfl (.tmp 104) (.tmp 106) rfl rfl rfl ?_; intro v2 wB O2 G2; obtain ⟨hcv2, OC, hZl, hfin⟩ := LI.grown HT.out.1 HR.out HEQ.out.2.2.2.1 HT.out.2 O2 G2; have HOC := hide (And.intro OC hZl); have HFIN := hide hfin; clear O2 G2 OC hZl hfin) | (at_builtin; refine appC HOC.out.1 rfl (by have := HOC.out.2; have := HLT.out; have := HS.out.big; omega) rfl (.tmp 108) (.tmp 111) rfl rfl rfl ?_; intro v3 wC O3 G3; have HLI2 := hide (HFIN.out v3 wC O3 G3); clear O3 G3))
              rw [HEQ.out.1, HEQ.out.2.1, HEQ.out.2.2.1] at HLI2
              go_roundw
              case rel => exact ⟨k2 + 1, HLT.out, by rw [HK1.out], HLI2⟩
              case measure => rw [HK1.out]; have := HLT.out; simp [intOf]; omega
          · obtain ⟨uo, um, uc, huv, -, -⟩ := (HI1.out.un kk hkk).1
            have HI2 := hide (HI1.out.below' (below_drewN wq 1) 15)
            have HC : Hid (∀ j, Calls Try.prog 7 #[ptr (s.g kk), QV ⟨z, kd, n, b, tx⟩] (wq.drewN j) fun r w' => r = .returned (.tuple #[]) ∧ PutW (wq.drewN j) w' (s.g kk) ao2 (s.Z kk) kd n b tx (s.sp kk)) := fun j => put_any ao2 n2 c2 (s.Z kk) (s.sp kk) z kd n b tx (wq.drewN j) (HW2.out.below (below_drewN _ _)) HN2.out.1 HE.out.1 (by have := HB2.out; have := HE.out.2; omega)
            have HF : Hid (∀ w', PutW (wq.drewN 1) w' (s.g kk) ao2 (s.Z kk) kd n b tx (s.sp kk) → LP w0 w' gw gn gb k2 kk s.av s.cv (putOK kd n) (putB kd n b tx) (s.bad kk) uo um uc (s.U kk) ∧ w'.cell? ⟨gw, kk, none⟩ = some (ptr (s.g kk)) ∧ QBox w' g1 ⟨z, kd, n, b, tx⟩) := fun w' P => by
              have hao : ∀ b, blk ao2 = some b → nc wq (nc wr col 15) 15 b = kk := fun b e => by
                rw [nc_old 15 (HW2.out.row.lt b e)]; exact HN2.out.2 b e
              have hg1l : g1 < wq.heap.size := HQ1.out.lt
              have hcg : nc wq (nc wr col 15) 15 g1 = 15 := by rw [nc_old 15 hg1l]; exact nc_new 15 (by omega)
              refine ⟨LP.of_put HI2.out HR.out HEQ.out.1 HEQ.out.2.1 HEQ.out.2.2.1 rfl rfl HEQ.out.2.2.2.1 hkk huv hao P HE.out.1 HE.out.2, ?_, ?_⟩
              · rw [World.cell?_of_block (w := wq.drewN 1) (w' := w') (a := ⟨gw, kk, none⟩) (by rw [← HEQ.out.1]; exact HI2.out.other hkk hao P s.gw HI2.out.pw.lt (by rw [HI2.out.cw]; omega))]
                exact xw
              · exact (HI2.out.other hkk hao P g1 hg1l (by rw [hcg]; omega)).trans HQ1.out
            have HS28 : Hid ((wq.drew).cell? ⟨gw, kk, none⟩ = some (ptr (s.g kk)) ∧ (ldQ (.pointer (some ⟨g1, 0, none⟩))).run Try.prog wq.drew = .ok (.agg (QC ⟨z, kd, n, b, tx⟩)) wq.drew) := ⟨xw, run_ldQ (HQ1.out.below (below_drew1 _))⟩
            generalize hgk : s.g kk = gk at xw HC HF HS28
            clear HI1 HI2 HW2 HQ1 HN2
            go_wp2_with fail
            refine wp_region_held_drew (S := fun W => W.cell? ⟨gw, kk, none⟩ = some (ptr gk) ∧ (ldQ (.pointer (some ⟨g1, 0, none⟩))).run Try.prog W = .ok (.agg (QC ⟨z, kd, n, b, tx⟩)) W) (by kernel_rfl) (HS28.out) (fun hHeld => ?_)
            refine wpAnyH_take (i := 0) (oi := { dst := some 113, op := Op.move (Operand.tmp 13), type := 3, pos := "law.go:74", after := #[], guard := none }) (v := ?_) rfl (by kernel_rfl) (by kernel_rfl) (by kernel_rfl) (fun _ _ _ h => h) (Or.inl ⟨by rfl, ?_⟩) (by assumption) ?_
            rotate_left
            · (intro w hSw; (try dsimp only at hSw); go_simp); first | done | with_reducible rfl
            simp only [Act.put, List.setIfInBounds_toArray, List.set_cons_zero, List.set_cons_succ]
            refine wpAnyH_take (i := 1) (oi := { dst := some 114, op := Op.indexAddr 25 (Operand.tmp 3) (Operand.tmp 113), type := 0, pos := "law.go:74", after := #[{ on := 0, ground := Ground.data }], guard := none }) (v := ?_) rfl (by kernel_rfl) (by kernel_rfl) (by kernel_rfl) (fun _ _ _ h => h) (Or.inl ⟨by rfl, ?_⟩) (by assumption) ?_
            rotate_left
            · (intro w hSw; (try dsimp only at hSw); go_simp); first | done | with_reducible rfl
            simp only [Act.put, List.setIfInBounds_toArray, List.set_cons_zero, List.set_cons_succ]
            refine wpAnyH_take (i := 2) (oi := { dst := some 115, op := Op.load 23 (Operand.tmp 114), type := 23, pos := "law.go:74", after := #[{ on := 1, ground := Ground.data }], guard := none }) (v := ?_) rfl (by kernel_rfl) (by kernel_rfl) (by kernel_rfl) (fun _ _ _ h => h) (Or.inl ⟨by rfl, ?_⟩) (by assumption) ?_
            rotate_left
            · (intro w hSw; (try dsimp only at hSw); go_simp); first | done | with_reducible rfl
            simp only [Act.put, List.setIfInBounds_toArray, List.set_cons_zero, List.set_cons_succ]
            refine wpAnyH_take (i := 3) (oi := { dst := some 116, op := Op.load 36 (Operand.tmp 12), type := 36, pos := "law.go:74", after := #[], guard := none }) (v := ?_) rfl (by kernel_rfl) (by kernel_rfl) (by kernel_rfl) (fun _ _ _ h => h) (Or.inl ⟨by rfl, ?_⟩) (by assumption) ?_
            rotate_left
            · (intro w hSw; (try dsimp only at hSw); go_simp); first | done | with_reducible rfl
            simp only [Act.put, List.setIfInBounds_toArray, List.set_cons_zero, List.set_cons_succ]
            refine wpAnyH_ready (rs := [4]) (by kernel_rfl) (by simp) ?_
            refine AllReadyH.cons rfl (fun K hK => ?_) ?_
            rotate_left
            · exact AllReadyH.nil
            go_simp
            go_wp2_with fail
            refine (HC.out 1).mono ?_
            rintro r w3 ⟨rfl, P3⟩
            obtain ⟨LP3, xw3, Q3⟩ := HF.out w3 P3
            have HLP := hide LP3
            have HQ3 := hide Q3
            have hld3 := run_ldQ Q3
            refine hK.out _ _ ⟨xw3, hld3⟩ (fun hHeld => ?_)
            clear hK K LP3 P3 Q3 xw3 HC HF HS28 xw
            refine wpAnyH_done (by kernel_rfl) ?_ _
            clear hHeld
            go_wp2_with fail
            refine (thing_any z kd n b tx w3).mono ?_
            rintro r w4 ⟨rfl, b4⟩
            obtain ⟨w5, hw5⟩ : ∃ w5, w4.alloc (.cells (PC ⟨kd, n, b, tx⟩) 41) = w5 := ⟨_, rfl⟩
            obtain ⟨q4, hq4⟩ : ∃ q4, w4.heap.size = q4 := ⟨_, rfl⟩
            have HA5 : Hid (PAt w5 ⟨q4, 0, none⟩ ⟨kd, n, b, tx⟩ ∧ LP w0 w5 gw gn gb k2 kk s.av s.cv (putOK kd n) (putB kd n b tx) (s.bad kk) uo um uc (s.U kk)) := by
              have hb5 := below_new w4 (.cells (PC ⟨kd, n, b, tx⟩) 41)
              rw [hw5] at hb5
              refine ⟨?_, (HLP.out.below b4).below hb5⟩
              subst hw5 hq4
              exact (PBox_new w4 _).pat
            clear HLP HQ3 hld3 b4
            go_wp2_with fail
            refine (bytes_any kd n b tx q4 w5 HA5.out.1 HE.out.1 (by have := HE.out.2; omega)).mono ?_
            rintro r w6 hby
            obtain ⟨bo6, m6', cc6, Y2, rfl, B6, hY2, N6, hYl⟩ := bytes_out HE.out.1 HE.out.2 hby
            have HL6 := hide (HA5.out.2.below N6.1)
            have HB6 := hide B6
            have HG : Hid (∀ k, blk bo6 = some k → k ≠ gb) := fun k e => by have h1 := N6.2 k e; have h2 := HA5.out.2.gb_lt; omega
            have HY := hide hY2
            have HYL := hide hYl
            clear hby B6 N6 hY2 hYl HA5 xb y0 y1 hgk
            generalize putB kd n b tx = Y at HL6 HY
            generalize putOK kd n = ok at HL6 HY ⊢
            generalize s.bad kk = bk at HL6
            generalize s.U kk = UU at HL6
            have xb6 := (HL6.out.cells hkk).1
            have fb6 := (HL6.out.cells hkk).2
            cases ok with
            | true =>
              cases bk with
              | true =>
                obtain ⟨w7, hw7⟩ : ∃ w7, w6.setCell ⟨gb, kk, none⟩ (.bool true) = w7 := ⟨_, rfl⟩
                obtain ⟨xn7, B7, hum, hfin⟩ := HL6.out.row hkk true rfl w7 hw7
                have HB7 := hide B7
                have HS7 : Hid (BS w7 bo6 m6' cc6 Y2) := (HB6.out.keep (w' := w7) (fun k e => by rw [← hw7]; exact set_other w6 gb kk k _ (HG.out k e))).bs
                have HF7 := hide hfin
                have HM7 : Hid (um + m6' ≤ 140737488355328) := by show _ ≤ _; have h1 := HLT.out; have h2 := HS.out.big; have h3 := HYL.out; have h4 := HB6.out.len; omega
                clear B7 hum hfin HL6
                go_wp2_with (at_builtin; refine HB7.out.appB HS7.out HM7.out rfl (.tmp 137) (.tmp 138) rfl rfl rfl ?_; intro b8 c8 w8 B8 A8; obtain ⟨fz8, ⟨x8, hx8⟩, L8⟩ := HF7.out b8 _ c8 Y2 w8 HY.out B8 A8 HYL.out; have HL8 := hide L8; clear B8 A8 L8)
                go_roundw
                case rel => exact ⟨k2 + 1, HLT.out, by rw [HK1.out], HL8⟩
                case measure => rw [HK1.out]; have := HLT.out; simp [intOf]; omega
              | false =>
                obtain ⟨w7, hw7⟩ : ∃ w7, w6.setCell ⟨gb, kk, none⟩ (.bool false) = w7 := ⟨_, rfl⟩
                obtain ⟨xn7, B7, hum, hfin⟩ := HL6.out.row hkk false rfl w7 hw7
                have HB7 := hide B7
                have HS7 : Hid (BS w7 bo6 m6' cc6 Y2) := (HB6.out.keep (w' := w7) (fun k e => by rw [← hw7]; exact set_other w6 gb kk k _ (HG.out k e))).bs
                have HF7 := hide hfin
                have HM7 : Hid (um + m6' ≤ 140737488355328) := by show _ ≤ _; have h1 := HLT.out; have h2 := HS.out.big; have h3 := HYL.out; have h4 := HB6.out.len; omega
                clear B7 hum hfin HL6
                go_wp2_with (at_builtin; refine HB7.out.appB HS7.out HM7.out rfl (.tmp 137) (.tmp 138) rfl rfl rfl ?_; intro b8 c8 w8 B8 A8; obtain ⟨fz8, ⟨x8, hx8⟩, L8⟩ := HF7.out b8 _ c8 Y2 w8 HY.out B8 A8 HYL.out; have HL8 := hide L8; clear B8 A8 L8)
                go_roundw
                case rel => exact ⟨k2 + 1, HLT.out, by rw [HK1.out], HL8⟩
                case measure => rw [HK1.out]; have := HLT.out; simp [intOf]; omega
            | false =>
              cases bk with
              | true =>
                obtain ⟨w7, hw7⟩ : ∃ w7, w6.setCell ⟨gb, kk, none⟩ (.bool true) = w7 := ⟨_, rfl⟩
                obtain ⟨xn7, B7, hum, hfin⟩ := HL6.out.row hkk true rfl w7 hw7
                have HB7 := hide B7
                have HS7 : Hid (BS w7 bo6 m6' cc6 Y2) := (HB6.out.keep (w' := w7) (fun k e => by rw [← hw7]; exact set_other w6 gb kk k _ (HG.out k e))).bs
                have HF7 := hide hfin
                have HM7 : Hid (um + m6' ≤ 140737488355328) := by show _ ≤ _; have h1 := HLT.out; have h2 := HS.out.big; have h3 := HYL.out; have h4 := HB6.out.len; omega
                clear B7 hum hfin HL6
                go_wp2_with (at_builtin; refine HB7.out.appB HS7.out HM7.out rfl (.tmp 137) (.tmp 138) rfl rfl rfl ?_; intro b8 c8 w8 B8 A8; obtain ⟨fz8, ⟨x8, hx8⟩, L8⟩ := HF7.out b8 _ c8 Y2 w8 HY.out B8 A8 HYL.out; have HL8 := hide L8; clear B8 A8 L8)
                go_roundw
                case rel => exact ⟨k2 + 1, HLT.out, by rw [HK1.out], HL8⟩
                case measure => rw [HK1.out]; have := HLT.out; simp [intOf]; omega
              | false =>
                obtain ⟨w7, hw7⟩ : ∃ w7, w6.setCell ⟨gb, kk, none⟩ (.bool true) = w7 := ⟨_, rfl⟩
                obtain ⟨xn7, B7, hum, hfin⟩ := HL6.out.row hkk true rfl w7 hw7
                have HB7 := hide B7
                have HS7 : Hid (BS w7 bo6 m6' cc6 Y2) := (HB6.out.keep (w' := w7) (fun k e => by rw [← hw7]; exact set_other w6 gb kk k _ (HG.out k e))).bs
                have HF7 := hide hfin
                have HM7 : Hid (um + m6' ≤ 140737488355328) := by show _ ≤ _; have h1 := HLT.out; have h2 := HS.out.big; have h3 := HYL.out; have h4 := HB6.out.len; omega
                clear B7 hum hfin HL6
                go_wp2_with (at_builtin; refine HB7.out.appB HS7.out HM7.out rfl (.tmp 137) (.tmp 138) rfl rfl rfl ?_; intro b8 c8 w8 B8 A8; obtain ⟨fz8, ⟨x8, hx8⟩, L8⟩ := HF7.out b8 _ c8 Y2 w8 HY.out B8 A8 HYL.out; have HL8 := hide L8; clear B8 A8 L8)
                go_roundw
                case rel => exact ⟨k2 + 1, HLT.out, by rw [HK1.out], HL8⟩
                case measure => rw [HK1.out]; have := HLT.out; simp [intOf]; omega
        · obtain ⟨col, s, I, R, e1, e2, e3, e4, e5, hA⟩ := HI.out
          clear HI
          obtain ⟨aa, ca, eA, cA⟩ := I.ans.form
          obtain ⟨ac, cc, eC, cC⟩ := I.cps.form
          have hzl : (strs s.Zs).length = s.As.length := by rw [List.length_map, R.zl]
          rw [hzl] at eC
          have HEA := hide eA
          have HEC := hide eC
          rw [eA] at e4
          rw [eC] at e5
          subst e4 e5
          have HI2 : Hid (∃ col, WI w0 wr col s (2 + k2 * 1048600)) := ⟨col, I⟩
          have HZL := hide R.zl
          have HNA : Hid (s.As.length ≤ 1048576) := by show _ ≤ _; have := HS.out.big; omega
          clear I R e1 e2 e3 hA eA eC cA cC hzl
          go_wp2_with fail
          go_loopw [18] (fun i wr => ∃ j : Nat, j ≤ s.As.length ∧ i = .int .i64 j ∧ Hid (∃ col, WI w0 wr col s (2 + k2 * 1048600))) (fun i _ => s.As.length - (intOf i).toNat)
          case atStart => exact ⟨0, Nat.zero_le _, rfl, HI2⟩
          case round =>
            clear HI2
            obtain ⟨j, hj, rfl, HJ⟩ := hrel
            by_cases hjl : j < s.As.length
            · obtain ⟨col, I⟩ := HJ.out
              have HK3 : Hid (wrap64 ((j : Int) + 1) = ((j + 1 : Nat) : Int)) := by show _ = _; have := HNA.out; rw [w64 (by omega) (by omega)]; rfl
              have HJL := hide hjl
              obtain ⟨aa2, ca2, eA2, cA2⟩ := I.ans.form
              obtain ⟨ac2, cc2, eC2, cC2⟩ := I.cps.form
              obtain ⟨ba, rfl, hA3⟩ := cA2 j hjl
              have hzj : j < s.Zs.length := by rw [HZL.out]; exact hjl
              obtain ⟨bc, rfl, hC3⟩ := cC2 j (by rw [List.length_map]; exact hzj)
              rw [HEA.out] at eA2
              rw [HEC.out] at eC2
              simp only [Value.slice.injEq] at eA2 eC2
              obtain ⟨rfl, -, -⟩ := eA2
              obtain ⟨rfl, -, -⟩ := eC2
              obtain ⟨v, hv⟩ : ∃ v, s.As[j]? = some v := ⟨_, List.getElem?_eq_getElem hjl⟩
              obtain ⟨Zj, hZj⟩ : ∃ Z, s.Zs[j]? = some Z := ⟨_, List.getElem?_eq_getElem hzj⟩
              have U := I.rd j v Zj hv hZj
              rw [hv] at hA3
              rw [List.getElem?_map, hZj, Option.map_some] at hC3
              have hcv : ∀ j', (convert 27 9 v).run Try.prog (wr.drewN j') = .ok (.string (strOfNums Zj)) (wr.drewN j') := fun j' => (U.keep (C := fun _ => False) (St.of_below (below_drewN wr j')) id 14).str
              have HJ2 : Hid (∀ nq, ∃ col, WI w0 (wr.drewN nq) col s (2 + k2 * 1048600)) := fun nq => ⟨_, I.below' (below_drewN _ nq) 14⟩
              clear HJ I U hv hZj hzj cA2 cC2
              go_wp2_with fail
              go_quiet (fail)
              go_wp2_with fail
              go_roundw
              case rel => exact ⟨j + 1, HJL.out, by rw [HK3.out], HJ2.out _⟩
              case measure => rw [HK3.out]; have := HJL.out; simp [intOf]; omega
            · have HBW : Hid (Below w0.heap.size w0 wr) := by obtain ⟨col, I⟩ := HJ.out; exact I.below
              clear HJ
              go_wp2_with fail
              go_ret
              exact ⟨rfl, HBW.out⟩
end Go.Proofs.Ytebedjhfdncabaa
