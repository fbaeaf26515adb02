/- SpanCounts: the law's walk. -/
import Derived.Test.YtahlchijgfillaaRSp
import Derived.Test.YtahlchijgfillaaRUn
namespace Go.Proofs.Ytahlchijgfillaa
open Go.RowKit
attribute [local go_sem ↓] ldR_eq stR_eq
attribute [local go_sem] zero_RC cells_RV RC_size fold_RC build_RC

theorem SizeOf.form {M : List Rn} {k : Int} (h : SizeOf M k) (hf : form 1 M) : k = sz M := by
  obtain ⟨R, hR, rfl⟩ := h
  rw [hR.unique (NormOf.self hf)]
theorem all_size {k : Int} (h : SizeOf [⟨1, 1000000000⟩, ⟨5, 9⟩] k) : k = 1000000000 := by
  obtain ⟨R, hR, rfl⟩ := h
  have : NormOf [⟨1, 1000000000⟩, ⟨5, 9⟩] [⟨1, 1000000000⟩] := ⟨⟨by decide, by decide, by decide, trivial⟩, fun n => by
    rw [mem_one, mem_cons, mem_one]
    simp only
    omega⟩
  rw [hR.unique this]
  rfl
set_option maxRecDepth 100000 in
set_option maxHeartbeats 1000000 in
theorem counts_any (ao bo : Option Addr) (n cap m cap' : Nat) (A B : List Rn) (z : Int) (w : World) (hS : RSrc w ao n cap A) (hR : RSrc w bo m cap' B) (hlen : n + m ≤ 8796093022207) :
    Calls Try.prog 5 #[.slice ao n cap, .slice bo m cap', .int .i64 z] w fun e w' => e = .returned (.bool true) ∧ Below w.heap.size w w' := by
  have HS := hide hS
  have HR := hide hR
  clear hS hR
  go_enter Try.func5, Try.ntmps5
  go_wp2_with fail
  refine (size_any _ 2 2 [⟨1, 1000000000⟩, ⟨5, 9⟩] _ (lit_rsrc w [⟨1, 1000000000⟩, ⟨5, 9⟩] _ rfl _ 2 rfl (by omega))).mono ?_
  rintro e w1 ⟨k1, rfl, z1, b1⟩
  obtain rfl := all_size z1
  have HB1 := hide ((below_new _ _).trans (b1.mono (below_new _ _).size))
  clear b1 z1
  go_wp2_with fail
  refine (size_any ao n cap A _ (HS.out.below HB1.out)).mono ?_
  rintro e w2 ⟨sx, rfl, ⟨X, hX, ex⟩, b2⟩
  have HX := hide hX
  have HEX := hide ex
  obtain ⟨x1, x2⟩ := sz_top hX.1
  rw [← ex] at x1 x2
  have HB2 := hide (HB1.out.trans (b2.mono HB1.out.size))
  clear b2 hX ex HB1
  go_wp2_with fail
  refine (meet_any ao bo n cap m cap' A B _ (HS.out.below HB2.out) (HR.out.below HB2.out)).mono ?_
  rintro e w3 ⟨a3, n3, c3, M, rfl, S3, b3, p3⟩
  have HS3 := hide S3
  have HM := hide p3
  have HB3 := hide (HB2.out.trans (b3.mono HB2.out.size))
  clear S3 b3 p3 HB2
  go_wp2_with fail
  refine (size_any a3 n3 c3 M _ HS3.out).mono ?_
  rintro e w4 ⟨sm, rfl, zm, b4⟩
  have HEM := hide (zm.form HM.out.1)
  obtain ⟨m1, m2⟩ := sz_top HM.out.1
  rw [← HEM.out] at m1 m2
  have HB4 := hide (HB3.out.trans (b4.mono HB3.out.size))
  clear b4 zm HB3 HS3
  go_wp2_with fail
  have k0 : (w4.alloc (.cells #[.slice ao n cap, .slice bo m cap'] 22)).cell? ⟨w4.heap.size, 0, none⟩ = some (.slice ao n cap) := by simp
  have k1 : (w4.alloc (.cells #[.slice ao n cap, .slice bo m cap'] 22)).cell? ⟨w4.heap.size, 1, none⟩ = some (.slice bo m cap') := by simp
  have HB5 := hide (HB4.out.trans ((below_new w4 (.cells #[.slice ao n cap, .slice bo m cap'] 22)).mono HB4.out.size))
  refine (union_any w4.heap.size ao bo n cap m cap' A B _ (HS.out.below HB5.out) (HR.out.below HB5.out) k0 k1 hlen).mono ?_
  rintro e w6 ⟨a6, n6, c6, U, rfl, S6, b6, p6⟩
  have HS6 := hide S6
  have HU := hide p6
  have HB6 := hide (HB5.out.trans (b6.mono HB5.out.size))
  clear S6 b6 p6 HB4 HB5 k0 k1
  go_wp2_with fail
  refine (size_any a6 n6 c6 U _ HS6.out).mono ?_
  rintro e w7 ⟨su, rfl, zu, b7⟩
  have HEU := hide (zu.form HU.out.1)
  obtain ⟨u1, u2⟩ := sz_top HU.out.1
  rw [← HEU.out] at u1 u2
  have HB7 := hide (HB6.out.trans (b7.mono HB6.out.size))
  have e1 : IntKind.i64.wrap (su + sm) = su + sm := by rw [IntKind.wrap_i64]; omega
  clear b7 zu HB6 HS6
  go_wp2_with fail
  refine (size_any bo m cap' B _ (HR.out.below HB7.out)).mono ?_
  rintro e w8 ⟨sy, rfl, ⟨Y, hY, ey⟩, b8⟩
  obtain ⟨y1, y2⟩ := sz_top hY.1
  have t1 : su + sm = sx + sy := by
    rw [HEU.out, HEM.out, HEX.out, ey]
    exact sz_pairs HU.out.1 HM.out.1 HX.out.1 hY.1 (fun q => by
      rw [HU.out.2 q, HM.out.2 q, HX.out.2 q, hY.2 q]
      exact ⟨⟨fun h => h.elim id (fun h => Or.inl h.1), Or.inl⟩, ⟨fun h => h.2, fun h => ⟨Or.inl h.1, h⟩⟩⟩)
  rw [← ey] at y1 y2
  have HB8 := hide (HB7.out.trans (b8.mono HB7.out.size))
  have e2 : IntKind.i64.wrap (sx + sy) = sx + sy := by rw [IntKind.wrap_i64]; omega
  have d1 : (su + sm != sx + sy) = false := by simpa using t1
  clear b8 hY ey HB7 t1
  go_wp2_with fail
  refine (minus_any ao bo n cap m cap' A B _ (HS.out.below HB8.out) (HR.out.below HB8.out)).mono ?_
  rintro e w9 ⟨a9, n9, c9, D, rfl, S9, b9, p9⟩
  have HS9 := hide S9
  have HD := hide p9
  have HB9 := hide (HB8.out.trans (b9.mono HB8.out.size))
  clear S9 b9 p9 HB8 d1 e1 e2
  go_wp2_with fail
  refine (size_any a9 n9 c9 D _ HS9.out).mono ?_
  rintro e w10 ⟨sd, rfl, zd, b10⟩
  have ed := zd.form HD.out.1
  obtain ⟨d1, d2⟩ := sz_top HD.out.1
  have t1 : sd + sm = sx := by
    rw [ed, HEM.out, HEX.out]
    exact sz_parts HD.out.1 HM.out.1 HX.out.1 (fun q => by
      rw [HD.out.2 q, HM.out.2 q, HX.out.2 q]
      exact ⟨⟨fun h => h.elim (·.1) (·.1), fun h => (Classical.em (mem B q)).elim (fun e => Or.inr ⟨h, e⟩) (fun e => Or.inl ⟨h, e⟩)⟩, fun h => h.1.2 h.2.2⟩)
  rw [← ed] at d1 d2
  have e1 : IntKind.i64.wrap (sd + sm) = sd + sm := by rw [IntKind.wrap_i64]; omega
  have d3 : (sd + sm != sx) = false := by simpa using t1
  have HB10 := hide (HB9.out.trans (b10.mono HB9.out.size))
  clear b10 zd HB9 HS9 ed t1
  go_wp2_with fail
  refine (split_any ao n cap A z _ (HS.out.below HB10.out)).mono ?_
  rintro e w11 ⟨la, ln, lc, P, ha, hn, hc, Q, rfl, sP, sQ, pP, pQ, b11⟩
  have HSP := hide sP
  have HSQ := hide sQ
  have HPP := hide pP
  have HPQ := hide pQ
  have HB11 := hide (HB10.out.trans (b11.mono HB10.out.size))
  clear sP sQ pP pQ b11 HB10 e1 d3 d1 d2
  go_wp2_with fail
  refine (lead_any ao n cap A _ (HS.out.below HB11.out)).mono ?_
  rintro e w12 ⟨k, ra, rn, rc, T, rfl, sT, pT, b12⟩
  have HST := hide sT
  have HPT := hide pT
  have kk1 := pT.2.1
  have kk2 := pT.2.2.1
  have HSP' := hide (HSP.out.below b12)
  have HSQ' := hide (HSQ.out.below b12)
  have HB12 := hide (HB11.out.trans (b12.mono HB11.out.size))
  clear sT pT b12 HB11 HSP HSQ
  go_wp2_with fail
  refine (size_any la ln lc P _ HSP'.out).mono ?_
  rintro e w13 ⟨sp, rfl, zp, b13⟩
  have HEP := hide (zp.form HPP.out.1)
  obtain ⟨p1, p2⟩ := sz_top HPP.out.1
  rw [← HEP.out] at p1 p2
  have HST1 := hide (HST.out.below b13)
  have HSP1 := hide (HSP'.out.below b13)
  have HSQ1 := hide (HSQ'.out.below b13)
  have HB13 := hide (HB12.out.trans (b13.mono HB12.out.size))
  clear b13 zp HB12 HST HSP' HSQ'
  go_wp2_with fail
  refine (size_any ha hn hc Q _ HSQ1.out).mono ?_
  rintro e w14 ⟨sq, rfl, zq, b14⟩
  have eq := zq.form HPQ.out.1
  obtain ⟨q1, q2⟩ := sz_top HPQ.out.1
  have t1 : sp + sq = sx := by
    rw [eq, HEP.out, HEX.out]
    exact sz_parts HPP.out.1 HPQ.out.1 HX.out.1 (fun q => by
      rw [HPP.out.2 q, HPQ.out.2 q, HX.out.2 q]
      exact ⟨⟨fun h => h.elim (·.1) (·.1), fun h => (Classical.em (mem [⟨z, 1000000000⟩] q)).elim (fun e => Or.inr ⟨h, e⟩) (fun e => Or.inl ⟨h, e⟩)⟩, fun h => h.1.2 h.2.2⟩)
  rw [← eq] at q1 q2
  have e1 : IntKind.i64.wrap (sp + sq) = sp + sq := by rw [IntKind.wrap_i64]; omega
  have d3 : (sp + sq != sx) = false := by simpa using t1
  have HST2 := hide (HST1.out.below b14)
  have HSP2 := hide (HSP1.out.below b14)
  have HB14 := hide (HB13.out.trans (b14.mono HB13.out.size))
  clear b14 zq HB13 HST1 HSP1 HSQ1 eq t1
  go_wp2_with fail
  refine (size_any ra rn rc T _ HST2.out).mono ?_
  rintro e w15 ⟨st, rfl, zt, b15⟩
  have et := zt.form HPT.out.1
  obtain ⟨t2, t3⟩ := sz_top HPT.out.1
  have t1 : k + st = sx := by rw [et, HEX.out]; exact HPT.out.2.2.2.1 X HX.out
  rw [← et] at t2 t3
  have e2 : IntKind.i64.wrap (k + st) = k + st := by rw [IntKind.wrap_i64]; omega
  have d4 : (k + st != sx) = false := by simpa using t1
  have HST3 := hide (HST2.out.below b15)
  have HSP3 := hide (HSP2.out.below b15)
  have HB15 := hide (HB14.out.trans (b15.mono HB14.out.size))
  clear b15 zt HB14 HST2 HSP2 et t1 e1 d3
  go_wp2_with fail
  refine (has_any la ln lc P z _ HSP3.out).mono ?_
  rintro e w16 ⟨b, rfl, hb, b16⟩
  obtain rfl : b = false := by
    cases b with
    | false => rfl
    | true =>
      have := (HPP.out.2 z).1 (hb.1 rfl)
      exact absurd ((mem_one _ z).2 ⟨this.1.1, this.1.2.1, Int.le_refl _, this.1.2.1⟩) this.2
  have HST4 := hide (HST3.out.below b16)
  have HB16 := hide (HB15.out.trans (b16.mono HB15.out.size))
  clear b16 hb HB15 HST3 HSP3 e2 d4
  have hrn := HST4.out.big
  have HTL : Hid (T.length = rn) := HST4.out.len
  have e3 : IntKind.i64.wrap (k + 2) = k + 2 := by rw [IntKind.wrap_i64]; omega
  cases T with
  | nil =>
    obtain rfl : rn = 0 := HTL.out.symm
    go_wp2_with fail
    go_ret
    exact ⟨by simp, HB16.out⟩
  | cons r T =>
    have hn1 : 0 < rn := by rw [← HTL.out]; simp
    have hge := HPT.out.2.2.2.2 r T rfl
    obtain ⟨ad, rfl, _⟩ := HST4.out.at 0 hn1
    obtain ⟨b, o, rfl⟩ := HST4.out.spot hn1
    obtain ⟨q0, q1⟩ := HST4.out.nums 0 hn1
    simp [List.getD] at q0 q1
    have d0 : ((rn : Int) == 0) = false := by simp; omega
    clear q1
    go_wp2_with fail
    go_ret
    exact ⟨by simp <;> omega, HB16.out⟩
end Go.Proofs.Ytahlchijgfillaa
