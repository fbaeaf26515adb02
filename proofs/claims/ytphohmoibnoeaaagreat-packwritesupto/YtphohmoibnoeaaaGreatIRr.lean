/- The reference's PutRecords (barrowref09). -/
import Derived.Test.YtphohmoibnoeaaaGreatIRq
namespace Go.Proofs.YtphohmoibnoeaaaGreat
open Go.RowKit
attribute [local go_sem ↓] ldP_eq stP_eq
attribute [local go_sem] zero_PC cells_PV PC_size

theorem ReAt.flat9 {w : World} {b o : Nat} {r : Rc} (A : ReAt w ⟨b, o, none⟩ (mkR r)) : w.cell? ⟨b, o, none⟩ = some (.string r.s) ∧ PAt w ⟨b, o + 1, none⟩ r.p := by
 obtain ⟨h0, h1, h2⟩ := A
 rw [Addr.add_lit] at h1 h2
 exact ⟨h0, h1, by rw [Addr.add_lit]; exact h2⟩
set_option maxRecDepth 100000 in
set_option maxHeartbeats 6400000 in
theorem rputR9_any (so : Option Addr) (sn sc : Nat) (L : List Rc) (w : World) (hS : RcS w so sn sc L) (hlen : OkR L L.length → (recB (plR L)).length ≤ 40000000000000) : Calls Tryz.prog 15 #[.slice so sn sc] w fun e w' => PutR w w' e L := by
 have HS := hide hS
 have HLl : Hid (L.length = sn) := hS.len
 have HLen := hide hlen
 have hsn := hS.big
 clear hS hlen
 go_enter Tryz.func15, Tryz.ntmps15
 go_wp2_with fail
 refine (refCheck7_any so sn sc L w HS.out).mono ?_
 rintro e w2 ⟨x, rfl, hx, b2⟩
 have HB2 := hide b2
 have HS2 := hide (HS.out.below b2)
 clear b2
 rcases hx with ⟨rfl, hok⟩ | ⟨rfl, hno⟩
 rotate_left
 ·have HF : Hid (PutR w w2 (.returned (.tuple #[.slice none 0 0, .int .i64 1])) L) := .inl ⟨by rw [HLl.out]; exact hno, rfl, HB2.out⟩
  clear hno
  go_wp2_with fail
  go_ret2
  exact HF.out
 ·have HY : Hid (OkR L L.length) := by show OkR _ _; rw [HLl.out]; exact hok
  have HL2 : Hid ((recB (plR L)).length ≤ 40000000000000) := HLen.out HY.out
  clear hok
  go_wp2_with fail
  refine (U.rnum9_any none 0 0 [] sn _ (gw_new w2).r (by omega) (by omega)).mono ?_
  rintro e w3 ⟨bo, cc, rfl, hR, hA⟩
  have P3 := (gw_new w2).ap hR hA
  obtain ⟨m, hm⟩ : ∃ m, 0 + (U.numB sn).length = m := ⟨_, rfl⟩
  rw [hm] at P3 ⊢
  rw [List.nil_append] at P3
  have HP3 := hide P3
  clear P3 hR hA hm
  go_wp2_with fail
  go_loopw [4, 5] (fun b i wr => ∃ (j : Nat) (bo : Option Addr) (m cc : Nat), j ≤ sn ∧ i = .int .i64 j ∧ b = .slice bo m cc ∧ Hid (GW w2 wr bo m cc (U.numB sn ++ recB (plR (L.take j))) [])) (fun _ i _ => sn - (intOf i).toNat)
  case atStart => exact ⟨0, bo, m, cc, Nat.zero_le _, rfl, rfl, by
   show GW w2 _ bo m cc (U.numB sn ++ []) []
   rw [List.append_nil]
   exact HP3.out⟩
  case round =>
   obtain ⟨j, bo8, m8, cc8, hjn, rfl, rfl, HPj⟩ := hrel
   rename World => wv
   have P8 := HPj.out
   by_cases hlt : j < sn
   ·have S8 := HS2.out.below P8.nw.1
    obtain ⟨ad, rfl, A8⟩ := S8.at j hlt
    have hlti : ((j : Nat) : Int) < (sn : Int) := by omega
    obtain ⟨s, Hs⟩ : ∃ s, Hid (L.getD j rc0 = s) := ⟨_, rfl⟩
    rw [Hs.out] at A8
    obtain ⟨ad0, e0, A00⟩ := S8.at 0 (by omega)
    obtain rfl := Option.some.inj e0
    have hsp := World.cell?_spot A00.c0
    rw [Nat.zero_mul, add_zero] at hsp
    obtain ⟨bb, oo, sp⟩ := ad
    have hsp : sp = none := hsp
    subst hsp
    clear A00 e0
    rw [Addr.add_lit] at A8
    have HTk : Hid (L.take (j + 1) = L.take j ++ [s]) := by show _ = _; rw [take_snocR L j (by have := HLl.out; omega), Hs.out]
    have HIt : Hid (skuR s.s = true ∧ FormP s.p.P) := by
     have h1 := (HY.out j (by have := HLl.out; omega)).1
     rw [Hs.out] at h1
     exact h1
    have Hlt := hide hlt
    have HWv : Hid (∀ V bo m cc Y, GW w2 V bo m cc Y [] → ReAt V ⟨bb, oo + j * 3, none⟩ (mkR s) ∧ PSrc V s.p) := fun V bo m cc Y hV => by
     have hV2 := HS2.out.below hV.nw.1
     obtain ⟨ad', e', A'⟩ := hV2.at j Hlt.out
     obtain rfl := Option.some.inj e'
     rw [Hs.out, Addr.add_lit] at A'
     have hk := (hV2.okAt j Hlt.out).1
     rw [Hs.out] at hk
     exact ⟨A', hk⟩
    have HRl : Hid ((recB (plR (L.take (j + 1)))).length ≤ 40000000000000 ∧ recB (plR (L.take (j + 1))) = recB (plR (L.take j)) ++ (txB s.s ++ pastB s.p.P)) := by
     refine ⟨Nat.le_trans (rec_pre L (j + 1)) HL2.out, ?_⟩
     rw [HTk.out, plR_snoc, recB_snoc]
    have HLn8 : Hid (m8 ≤ 40000000000100) := by
     show _ ≤ _
     have h1 := P8.r.len
     have h2 := rec_pre L j
     have h3 := U.numB_len 9 sn (by omega)
     have h4 := HL2.out
     rw [List.length_append] at h1
     omega
    have HP8 := hide P8
    obtain ⟨t0, -⟩ := A8.flat9
    clear P8 S8 A8 HPj HP3
    go_wp2_with fail
    refine (U.rtext9_any bo8 m8 cc8 _ s.s _ HP8.out.r (by have := sku_len HIt.out.1; omega) (by have := HLn8.out; omega)).mono ?_
    rintro e we ⟨boe, me, cce, rfl, hRe, hAe⟩
    have Pe := HP8.out.ap hRe hAe
    have HMe : Hid (me ≤ 40000000000200) := by
     show _ ≤ _
     have h1 := Pe.r.len
     have h2 := HP8.out.r.len
     have h3 := HLn8.out
     have h4 := txB_len (sku_len HIt.out.1)
     unfold txB at h4
     rw [List.length_append] at h1
     omega
    have HPe := hide Pe
    have hW := HWv.out _ _ _ _ _ Pe
    have HSe := hide (HS2.out.below Pe.nw.1)
    have l3 := run_ldP hW.1.flat9.2
    have HPs : Hid (PSrc w2 s.p) := by
     have hk := (HS2.out.okAt j Hlt.out).1
     rw [Hs.out] at hk
     exact hk
    clear Pe hRe hAe t0 hW
    go_wp2_with fail
    refine (rputPast9_any HPe.out s.p HPs.out HIt.out.2.1 (by have := HMe.out; omega)).mono ?_
    rintro e wd ⟨bod, md, ccd, rfl, Pd⟩
    have HPd : Hid (GW w2 wd bod md ccd (U.numB sn ++ recB (plR (L.take (j + 1)))) []) := by
     rw [HRl.out.2]
     have := Pd
     unfold txB
     simp only [List.append_assoc] at this ⊢
     exact this
    clear Pd l3
    go_wp2_with fail
    go_roundw
    case rel => exact ⟨j + 1, bod, md, ccd, by have := Hlt.out; omega, by simp, rfl, HPd.out⟩
    case measure => simp [intOf]; have := Hlt.out; omega
   ·obtain rfl : j = sn := by omega
    have hlti : ¬ ((j : Nat) : Int) < (j : Int) := by omega
    have HFin : Hid (PutR w wv (.returned (.tuple #[.slice bo8 m8 cc8, .int .i64 0])) L) := by
     have h1 := P8
     rw [List.take_of_length_le (by have := HLl.out; omega), ← HLl.out] at h1
     have h2 : GW w2 wv bo8 m8 cc8 ([] ++ recsB (plR L)) [] := by
      unfold recsB
      rw [plR_len]
      exact h1
     obtain ⟨rfl, h4, h5⟩ := h2.put
     exact .inr ⟨HY.out, bo8, cc8, rfl, h4, h5.pre HB2.out⟩
    clear P8
    go_wp2_with fail
    go_ret2
    exact HFin.out
end Go.Proofs.YtphohmoibnoeaaaGreat
