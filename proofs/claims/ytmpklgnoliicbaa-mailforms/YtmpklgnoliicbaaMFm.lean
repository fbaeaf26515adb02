/- MailForms: the law's walk. -/
import Derived.Test.YtmpklgnoliicbaaMRk
import Derived.Test.YtmpklgnoliicbaaMBd
namespace Go.Proofs.Ytmpklgnoliicbaa
open Go.RowKit
attribute [local go_sem ↓] ldP_eq stP_eq ldM_eq stM_eq
attribute [local go_sem] MC_size to_MC MC_s0 MC_s1 MC_s2 MC_s3 MC_s4 MC_s5
variable {w w' : World} {g : Nat}

theorem not_u8 {m : Ml} (M : MBox w g m) {ad : Addr} {z : Int} (h : w.cell? ad = some (.int .u8 z)) : ad.block ≠ g := by
  intro e
  subst e
  unfold MBox at M
  unfold World.cell? at h
  rw [M] at h
  simp only at h
  split at h
  · cases h
  · have hm := List.mem_of_getElem? ((Array.getElem?_toList (xs := MC m)).trans h)
    simp [MC] at hm
theorem BSrc.setRow {m : Ml} {cs : Array Value} {ao : Option Addr} {n c : Nat} {Z : List Int} (h : BSrc w ao n c Z) (M : MBox w g m) : BSrc (w.setRow g cs) ao n c Z :=
  ⟨h.len, h.nil, fun ad ha t ht => (World.cell?_of_block (setRow_other _ _ _ _ (not_u8 M (h.cell ad ha t ht)))).trans (h.cell ad ha t ht), h.big⟩
theorem block_of_add (a : Addr) (n : Nat) : (a.add n).block = a.block := by unfold Addr.add; split <;> rfl
theorem NSrc.setRow {cs : Array Value} {ao : Option Addr} {n c : Nat} {Z : List Int} (h : NSrc w ao n c Z) (hf : ∀ ad, ao = some ad → g < ad.block) : NSrc (w.setRow g cs) ao n c Z :=
  ⟨h.len, h.nil, fun ad ha t ht => (World.cell?_of_block (setRow_other _ _ _ _ (by rw [block_of_add]; have := hf ad ha; omega))).trans (h.cell ad ha t ht)⟩
theorem BodyIs.open {w' : World} {pn : Nat} {X : List Pt} {Y : List (List Int)} {q : Int} {r : Ending} (h : BodyIs w' pn X Y q r) :
    ∃ yo yn yc yb YY, r = .returned (.tuple #[.slice yo yn yc, .bool yb]) ∧ BSrc w' yo yn yc YY ∧ Hid (∀ (w2 : World) (r2 : Ending), BodyIs w2 pn X Y q r2 → ∃ vo vc, r2 = .returned (.tuple #[.slice vo yn vc, .bool yb]) ∧ BSrc w2 vo yn vc YY) := by
  rcases h with ⟨k, bo, cc, hk, e1, e2, rfl, B⟩ | ⟨e2, rfl⟩
  · refine ⟨_, _, _, _, _, rfl, B, fun w2 r2 h2 => ?_⟩
    rcases h2 with ⟨k2, bo2, cc2, hk2, f1, f2, rfl, B2⟩ | ⟨f2, rfl⟩
    · have : k = k2 := by
        rcases Nat.lt_trichotomy k k2 with h | h | h
        · exact absurd e1 (f2 k h)
        · exact h
        · exact absurd f1 (e2 k2 h)
      subst this
      exact ⟨_, _, rfl, B2⟩
    · exact absurd e1 (f2 k hk)
  · refine ⟨_, _, _, _, _, rfl, BSrc.empty _, fun w2 r2 h2 => ?_⟩
    rcases h2 with ⟨k2, bo2, cc2, hk2, f1, f2, rfl, B2⟩ | ⟨f2, rfl⟩
    · exact absurd f1 (e2 k2 hk2)
    · exact ⟨_, _, rfl, BSrc.empty _⟩
theorem ackV_plain (m : Ml) (X : List Pt) : ∃ a b c d e, ackV m X = ⟨a, b, c, d, e, none, 0, 0⟩ := by
  unfold ackV
  split
  · exact ⟨_, _, _, _, _, rfl⟩
  · exact ⟨_, _, _, _, _, rfl⟩
set_option maxRecDepth 100000 in
set_option maxHeartbeats 2000000 in
theorem mailForms_any (a b c d e : Int) (po : Option Addr) (pn pc : Nat) (X : List Pt) (Y : List (List Int)) (ct : Int) (w : World) (S : PSrc w po pn pc X) (P : PB w pn X Y) (he : e ≤ 9223372036854775807) : Calls Try.prog 3 #[MV ⟨a, b, c, d, e, po, pn, pc⟩, .int .i64 ct] w fun r w' => r = .returned (.bool true) ∧ Below w.heap.size w w' := by
  obtain ⟨w1, hw1⟩ : ∃ w1, w.alloc (.cells (MC ⟨a, b, c, d, e, po, pn, pc⟩) 24) = w1 := ⟨_, rfl⟩
  obtain ⟨g, hg⟩ : ∃ g, w.heap.size = g := ⟨_, rfl⟩
  have HX := hide (bx_new w ⟨a, b, c, d, e, po, pn, pc⟩ hw1 hg)
  have HS := hide (S.below HX.out.bel)
  have HP := hide (P.below HX.out.bel)
  have HE := hide he
  have HN : Hid (pn ≤ 4398046511104) := S.big
  have HG := hide hg
  clear S P he
  go_enter Try.func3, Try.ntmps3
  go_wp2_with fail
  clear hw1 hg
  refine (some_any w1).mono ?_
  rintro r w2 ⟨q, v, rfl, S2, b2⟩
  have HS2 := hide S2
  have HB2 := hide b2
  clear S2 b2
  go_wp2_with fail
  refine (check_any 1 0 1 2 3 (some ⟨q, 0, none⟩) 1 1 [⟨4, some ⟨v, 0, none⟩, 2, 2⟩] w2 HS2.out (by omega)).mono ?_
  rintro r w3 ⟨rfl, b3⟩
  rw [show ckE ⟨1, 0, 1, 2, 3, some ⟨q, 0, none⟩, 1, 1⟩ [⟨4, some ⟨v, 0, none⟩, 2, 2⟩] = 0 from rfl]
  have HB3 := hide (HB2.out.trans (b3.mono HB2.out.size))
  clear HS2 b3
  go_wp2_with fail
  refine (check_any 0 0 0 0 0 none 0 0 [] _ (PSrc.empty _) (by omega)).mono ?_
  rintro r w4 ⟨rfl, b4⟩
  rw [show ckE ⟨0, 0, 0, 0, 0, none, 0, 0⟩ [] = 1 from rfl]
  have HB4 := hide (HB3.out.trans (b4.mono HB3.out.size))
  clear b4 HB3 HB2
  go_wp2_with fail
  refine (some_any w4).mono ?_
  rintro r w5 ⟨q, v, rfl, S5, b5⟩
  have HS5 := hide S5
  have HB5 := hide (HB4.out.trans (b5.mono HB4.out.size))
  clear S5 b5 HB4
  go_wp2_with fail
  refine (ack_any 1 0 1 2 3 (some ⟨q, 0, none⟩) 1 1 [⟨4, some ⟨v, 0, none⟩, 2, 2⟩] w5 HS5.out (by omega)).mono ?_
  rintro r w6 ⟨rfl, b6⟩
  rw [show ackV ⟨1, 0, 1, 2, 3, some ⟨q, 0, none⟩, 1, 1⟩ [⟨4, some ⟨v, 0, none⟩, 2, 2⟩] = ⟨3, 1, 0, 0, 3, none, 0, 0⟩ from rfl, show ackE ⟨1, 0, 1, 2, 3, some ⟨q, 0, none⟩, 1, 1⟩ [⟨4, some ⟨v, 0, none⟩, 2, 2⟩] = 0 from rfl]
  have HB6 := hide (HB5.out.trans (b6.mono HB5.out.size))
  obtain ⟨g3, hg3⟩ : ∃ g3, w6.heap.size = g3 := ⟨_, rfl⟩
  obtain ⟨w7, hst, M7, b7, z7⟩ := madeM w6 ⟨3, 1, 0, 0, 3, none, 0, 0⟩ g3 hg3
  have HB7 := hide (HB6.out.trans (b7.mono HB6.out.size))
  have HM7 := hide M7
  have l7 := run_ldM (HX.out.box.below HB7.out)
  have a0 := M7.c0
  have a1 := M7.c1
  have a2 := M7.c2
  have a4 := M7.c4
  simp only at a0 a1 a2 a4
  have HGG : Hid (w1.heap.size ≤ g3) := by show _ ≤ _; rw [← hg3]; exact HB6.out.size
  have HNE : Hid (g ≠ g3) := by show _ ≠ _; have := HX.out.box.lt; have := HGG.out; omega
  clear HS5 b6 M7 b7 z7 HB5
  go_wp2_with fail
  clear hst l7 a0 a1 a2 a4 HB6
  obtain ⟨ka, kb, kc, kd, ke, hV⟩ := ackV_plain ⟨a, b, c, d, e, po, pn, pc⟩ X
  obtain ⟨ez, hZ⟩ : ∃ ez, ackE ⟨a, b, c, d, e, po, pn, pc⟩ X = ez := ⟨_, rfl⟩
  obtain ⟨cz, hC⟩ : ∃ cz, ckE ⟨a, b, c, d, e, po, pn, pc⟩ X = cz := ⟨_, rfl⟩
  have HV := hide hV
  have HZ := hide hZ
  have HC := hide hC
  clear hV hZ hC
  refine (rcheck_any a b c d e po pn pc X w7 (HS.out.below HB7.out)).mono ?_
  rintro r w8 ⟨rfl, b8⟩
  rw [HC.out]
  have HB8 := hide (HB7.out.trans (b8.mono HB7.out.size))
  have HM8 := hide (HM7.out.below b8)
  have l8 := run_ldM (HX.out.box.below HB8.out)
  clear b8 HB7 HM7
  go_wp2_with fail
  refine (racks_any a b c d e po pn pc X w8 (HS.out.below HB8.out)).mono ?_
  rintro r w9 ⟨rfl, b9⟩
  rw [HV.out, HZ.out]
  have HB9 := hide (HB8.out.trans (b9.mono HB8.out.size))
  have HM9 := hide (HM8.out.below b9)
  obtain ⟨g4, hg4⟩ : ∃ g4, w9.heap.size = g4 := ⟨_, rfl⟩
  obtain ⟨w10, hst, M10, b10, z10⟩ := madeM w9 ⟨ka, kb, kc, kd, ke, none, 0, 0⟩ g4 hg4
  have HB10 := hide (HB9.out.trans (b10.mono HB9.out.size))
  have HM10 := hide (HM9.out.below b10)
  have HW10 := hide M10
  have HG4 : Hid (g3 < g4) := by show _ < _; rw [← hg4]; exact HM9.out.lt
  have l10 := run_ldM (HX.out.box.below HB10.out)
  clear b9 b10 z10 M10 HM8 HM9 HB8 HB9 l8
  go_wp2_with fail
  clear hst hg4
  refine (cartsOf_any a b c d e po pn pc X w10 (HS.out.below HB10.out)).mono ?_
  rintro r w11 ⟨xo, xc, rfl, N11, F11, b11⟩
  have HF11 : Hid (∀ ad, xo = some ad → g3 < ad.block) := fun ad ha => Nat.lt_of_lt_of_le HM10.out.lt (F11 ad ha)
  have HN11 := hide N11
  have HB11 := hide (HB10.out.trans (b11.mono HB10.out.size))
  have HM11 := hide (HM10.out.below b11)
  have HW11 := hide (HW10.out.below b11)
  have l11 := run_ldM (HX.out.box.below HB11.out)
  clear b11 N11 F11 HM10 HW10 l10 HB10
  go_wp2_with fail
  refine (rbody_any a b c d e po pn pc X Y ct w11 (HS.out.below HB11.out) (HP.out.below HB11.out)).mono ?_
  rintro r w12 ⟨D12, b12⟩
  obtain ⟨yo, yn, yc, yb, YY, er, Y12, HD⟩ := BodyIs.open D12
  subst er
  have HN12 := hide (HN11.out.below b12)
  have HB12 := hide (HB11.out.trans (b12.mono HB11.out.size))
  have HM12 := hide (HM11.out.below b12)
  have HW12 := hide (HW11.out.below b12)
  have HY12 := hide Y12
  have l12 := run_ldM (HX.out.box.below HB12.out)
  clear b12 Y12 D12 HN11 HM11 HW11 l11 HB11
  go_wp2_with fail
  refine (check_any a b c d e po pn pc X w12 (HS.out.below HB12.out) HE.out).mono ?_
  rintro r w13 ⟨rfl, b13⟩
  rw [HC.out]
  have HN13 := hide (HN12.out.below b13)
  have HB13 := hide (HB12.out.trans (b13.mono HB12.out.size))
  have HM13 := hide (HM12.out.below b13)
  have HW13 := hide (HW12.out.below b13)
  have HY13 := hide (HY12.out.below b13)
  have l13 := run_ldM (HX.out.box.below HB13.out)
  clear b13 HN12 HM12 HW12 HY12 l12 HB12
  go_wp2_with fail
  refine (ack_any a b c d e po pn pc X w13 (HS.out.below HB13.out) HE.out).mono ?_
  rintro r w14 ⟨rfl, b14⟩
  rw [HV.out, HZ.out]
  have HB14 := hide (HB13.out.trans (b14.mono HB13.out.size))
  obtain ⟨w15, hw15⟩ : ∃ w15, w14.setRow g3 (MC ⟨ka, kb, kc, kd, ke, none, 0, 0⟩) = w15 := ⟨_, rfl⟩
  have hst : (stM (.pointer (some ⟨g3, 0, none⟩)) (.agg (MC ⟨ka, kb, kc, kd, ke, none, 0, 0⟩))).run Try.prog w14 = .ok () w15 := by rw [← hw15]; exact run_stM (HM13.out.below b14)
  have HM15 : Hid (MBox w15 g3 ⟨ka, kb, kc, kd, ke, none, 0, 0⟩) := by rw [← hw15]; exact (HM13.out.below b14).setRow
  have HW15 : Hid (MBox w15 g4 ⟨ka, kb, kc, kd, ke, none, 0, 0⟩) := by rw [← hw15]; exact (setRow_other _ _ _ _ (by have := HG4.out; omega)).trans (HW13.out.below b14)
  have HB15 : Hid (Below w1.heap.size w1 w15) := by rw [← hw15]; exact below_setRow HB14.out HGG.out
  have HN15 : Hid (NSrc w15 xo pn xc (cartsL X)) := by rw [← hw15]; exact (HN13.out.below b14).setRow HF11.out
  have HY15 : Hid (BSrc w15 yo yn yc YY) := by rw [← hw15]; exact (HY13.out.below b14).setRow (HM13.out.below b14)
  have lm := run_ldM HM15.out
  have lw := run_ldM HW15.out
  clear b14 hw15 HN13 HM13 HW13 HY13 HB13 HB14 l13
  go_wp2_with fail
  refine (equal_same ka kb kc kd ke w15).mono ?_
  rintro r w16 ⟨rfl, b16⟩
  have HN16 := hide (HN15.out.below b16)
  have HB16 := hide (HB15.out.trans (b16.mono HB15.out.size))
  have HY16 := hide (HY15.out.below b16)
  have l16 := run_ldM (HX.out.box.below HB16.out)
  clear b16 HN15 HY15 HB15 HM15 HW15 lm lw hst
  go_wp2_with fail
  refine (carts_any a b c d e po pn pc X w16 (HS.out.below HB16.out)).mono ?_
  rintro r w17 ⟨zo, zc, rfl, Z17, b17⟩
  have HN17 := hide (HN16.out.below b17)
  have HZ17 := hide Z17
  have HB17 := hide (HB16.out.trans (b17.mono HB16.out.size))
  have HY17 := hide (HY16.out.below b17)
  clear b17 Z17 HN16 HY16 HB16 l16
  go_wp2_with fail
  refine (eqInts_same zo pn zc xo xc (cartsL X) w17 HZ17.out HN17.out HN.out).mono ?_
  rintro r w18 ⟨rfl, b18⟩
  have HB18 := hide (HB17.out.trans (b18.mono HB17.out.size))
  have HY18 := hide (HY17.out.below b18)
  have l18 := run_ldM (HX.out.box.below HB18.out)
  clear b18 HN17 HZ17 HY17 HB17
  go_wp2_with fail
  refine (body_any a b c d e po pn pc X Y ct w18 (HS.out.below HB18.out) (HP.out.below HB18.out)).mono ?_
  rintro r w19 ⟨D19, b19⟩
  obtain ⟨vo, vc, er, V19⟩ := HD.out w19 r D19
  subst er
  have HB19 := hide (HB18.out.trans (b19.mono HB18.out.size))
  have HY19 := hide (HY18.out.below b19)
  have HV19 := hide V19
  clear b19 D19 V19 HY18 HB18 l18
  go_wp2_with fail
  refine (eqBytes_same vo yn vc yo yc YY w19 HV19.out HY19.out).mono ?_
  rintro r w20 ⟨rfl, b20⟩
  have HB20 := hide (HB19.out.trans (b20.mono HB19.out.size))
  clear b20
  go_wp2_with fail
  go_ret
  exact ⟨rfl, HX.out.bel.trans (HB20.out.mono HX.out.bel.size)⟩
end Go.Proofs.Ytmpklgnoliicbaa
