/- GoodsFits: the law's walk. -/
import Derived.Test.YtakeckpfblinpaaFiPlain
import Derived.Test.YtakeckpfblinpaaCoLaw
import Derived.Deep.DeepCutAuto
namespace Go.Proofs.Ytakeckpfblinpaa
open Go.RowKit

theorem match_k (w : World) : Calls Try.prog 15 #[.string ⟨#[64, 63, 42]⟩, .string ⟨#[65, 66]⟩] w fun e w' => e = .returned (.tuple #[.bool true, .int .i64 0]) ∧ Below w.heap.size w w' := by
  have h := match_any (bs [64, 63, 42]) (bs [65, 66]) w (by rw [bs_size]; decide) (by rw [bs_list]; decide +kernel) (by rw [bs_list]; decide +kernel)
  have e : rrun (bs [64, 63, 42]).data.toList (bs [65, 66]).data.toList (bs [65, 66]).size = true := by rw [bs_list, bs_list, bs_size]; decide +kernel
  rw [e] at h
  exact h
/-- the SKU that the law goes on with -/
def skuOf (l : List UInt8) : List UInt8 := if clE l = 0 then clS l else kS
theorem skuOf_good (l : List UInt8) : good (skuOf l) = true := by
  unfold skuOf
  by_cases h : clE l = 0
  · rw [if_pos h]; exact clS_good h
  · rw [if_neg h]; exact kS_good
theorem match_bs (P S : List UInt8) (hp : P.length ≤ 48) (hpb : P.all pb = true) (hg : good S = true) (x : Bool) (hx : rrun P S S.length = x) (w : World) :
    Calls Try.prog 15 #[.string (bs P), .string (bs S)] w fun e w' => e = .returned (.tuple #[.bool x, .int .i64 0]) ∧ Below w.heap.size w w' := by
  have h := match_any (bs P) (bs S) w (by rw [bs_size]; exact hp) (by rw [bs_list]; exact hpb) (by rw [bs_list]; exact hg)
  rw [bs_list, bs_list, bs_size, hx] at h
  exact h
theorem eq_text (S T : List UInt8) : ((bs S).toList == (bs T).toList) = (S == T) := by
  rw [ByteArray.toList_eq, ByteArray.toList_eq, bs_list, bs_list]

set_option maxRecDepth 100000 in
set_option maxHeartbeats 8000000 in
theorem fits_law (s o : ByteArray) (ao : Option Addr) (m cp : Nat) (Z : List Int) (w : World) (hs : s.size ≤ maxLen) (ho : o.size ≤ maxLen) (hZ : Src w ao m Z) :
    Calls Try.prog 6 #[.string s, .slice ao m cp, .string o] w fun e w' => e = .returned (.bool true) ∧ Below w.heap.size w w' := by
  have HS := hide hs
  have HO := hide ho
  have HZ := hide hZ
  clear hs ho hZ
  obtain ⟨S, HSk⟩ : ∃ S, Hid (skuOf s.data.toList = S) := ⟨_, rfl⟩
  have HG : Hid (good S = true) := by show _ = _; rw [← HSk.out]; exact skuOf_good _
  have hS24 : S.length ≤ 24 := ((good_iff S).1 HG.out).2.1
  obtain ⟨t, Ht⟩ : ∃ t, Hid (bs S = t) := ⟨_, rfl⟩
  have HtL : Hid (t.data.toList = S) := by show _ = _; rw [← Ht.out, bs_list]
  have HtS : Hid (S.length = t.size) := by show _ = _; rw [← Ht.out, bs_size]
  have ht24 : t.size ≤ 24 := by rw [← HtS.out]; exact hS24
  go_enter Try.func6, Try.ntmps6
  go_wp2_with fail
  refine (match_k _).mono ?_
  rintro e w1 ⟨rfl, hb1⟩
  go_wp2_with fail
  refine (clean_any s _ HS.out).mono ?_
  rintro e w2 ⟨rfl, hb2⟩
  have hb := below_on hb1 (Nat.le_refl _) hb2
  clear hb1 hb2
  obtain ⟨f, Hf⟩ : ∃ f, Hid (clE s.data.toList = f) := ⟨_, rfl⟩
  obtain ⟨q, Hq⟩ : ∃ q, Hid (clS s.data.toList = q) := ⟨_, rfl⟩
  rw [Hf.out, Hq.out]
  go_upto_if 34 with fail
  go_cut [9] (fun v wx => v = .string t ∧ wx = w2)
  case first =>
    by_cases hf : f = 0
    · subst hf
      have HqS : Hid (q = S) := by show _ = _; rw [← HSk.out, ← Hq.out]; unfold skuOf; rw [if_pos Hf.out]
      go_wp2
      go_meet
      case rel => exact ⟨by rw [HqS.out, Ht.out], rfl⟩
    · have hf' : (f == 0) = false := by simpa using hf
      have hf2 : (f != 0) = true := by rw [bne, hf']; rfl
      have HqS : Hid (kS = S) := by show _ = _; rw [← HSk.out]; unfold skuOf; rw [if_neg (by rw [Hf.out]; exact hf)]
      clear hf
      go_wp2
      go_meet
      case rel => exact ⟨by rw [← Ht.out, ← HqS.out]; rfl, rfl⟩
  case rest =>
    obtain ⟨rfl, rfl⟩ := hcut
    clear Hf Hq
    have hO : Own w.heap.size wc.heap.size w wc none 0 [] := Own.nil hb (Nat.le_refl _) hb.size
    go_wp2_with fail
    go_loopw [11, 12, 13] (fun v x i wr => ∃ (j : Nat) (ap : Option Addr) (cap : Nat), j ≤ t.size ∧ v = .slice ap (pat S (kAt Z) j).length cap ∧ x = .bool (star (kAt Z) j) ∧ i = .int .i64 j ∧ Own w.heap.size wc.heap.size w wr ap cap (pat S (kAt Z) j)) (fun _ _ i _ => t.size - (intOf i).toNat)
    case atStart => exact ⟨0, none, 0, Nat.zero_le _, rfl, rfl, rfl, hO⟩
    case round =>
      clear hO hb
      obtain ⟨j, ap, cap, hj, rfl, rfl, rfl, O⟩ := hrel
      obtain ⟨acc, hacc⟩ : ∃ acc, pat S (kAt Z) j = acc := ⟨_, rfl⟩
      have hal : acc.length ≤ 48 := by rw [← hacc]; have := pat_len S (kAt Z) j; omega
      by_cases hlt : j < t.size
      · obtain ⟨c, hcE⟩ : ∃ c, t[j] = c := ⟨_, rfl⟩
        obtain ⟨k, HK⟩ : ∃ k, Hid (kAt Z j = k) := ⟨_, rfl⟩
        have hcD : S.getD j 0 = c := by rw [← HtL.out, getD_at t j hlt, hcE]
        have hsk : sk c = true := by rw [← hcD]; exact sk_at HG.out j (by rw [HtS.out]; exact hlt)
        have HN : Hid (pat S (kAt Z) (j + 1) = acc ++ pk k c) := by
          show _ = _
          rw [pat, hacc, hcD, HK.out]
        obtain ⟨b, hst⟩ : ∃ b, star (kAt Z) j = b := ⟨_, rfl⟩
        rw [hacc] at O ⊢
        rw [hst]
        clear hacc hcD
        have HSK := hide hsk
        clear hsk
        have Hstar := hide hst
        clear hst
        go_upto_if 44 with fail
        go_cut [14] (fun q wx => q = .int .i64 k ∧ wx = wr)
        case first =>
          by_cases hjm : j < m
          · obtain ⟨b', off, rfl, hb', hcells⟩ := HZ.out.2 (by omega)
            have hcell : wr.cell? ⟨b', off + j, none⟩ = some (.int .i64 (Z.getD j 0)) := (O.below.cell hb').trans (hcells j hjm)
            obtain ⟨z, hz⟩ : ∃ z, Z.getD j 0 = z := ⟨_, rfl⟩
            have hk : bits BinOp.and IntKind.i64 z 7 = k := by rw [← HK.out, ← hz]; unfold kAt; rw [if_pos (by rw [HZ.out.1]; exact hjm)]
            rw [hz] at hcell
            clear hcells hz
            go_wp2
            go_meet
            case rel => exact ⟨by first | rfl | rw [hk], rfl⟩
          · have hk : k = 0 := by rw [← HK.out]; unfold kAt; rw [if_neg (by rw [HZ.out.1]; exact hjm)]
            subst hk
            go_wp2
            go_meet
            case rel => exact ⟨rfl, rfl⟩
        case rest =>
          obtain ⟨rfl, rfl⟩ := hcut
          have hst := Hstar.out
          by_cases k1 : k = 1
          · subst k1
            have HP : Hid (pk 1 c = [63]) := by show _ = _; unfold pk; rw [if_pos rfl]
            have HST : Hid (star (kAt Z) (j + 1) = b) := by show _ = _; unfold star; rw [HK.out, hst]; simp
            clear hst
            go_wp2_with (at_builtin; refine O.append [63] _ rfl (by simp) (by simp; omega) rfl (.tmp 60) (.tmp 61) rfl acc.length rfl rfl 1 rfl rfl ?_; intro g4 c4 w4 O4 hk4)
            go_roundw
            case rel => exact ⟨j + 1, some ⟨g4, 0, none⟩, c4, by omega, by rw [HN.out, HP.out]; simp, by rw [HST.out], by go_num, by rw [HN.out, HP.out]; exact O4⟩
            case measure => simp [intOf]; omega
          · have e1 : (k == 1) = false := by simpa using k1
            by_cases k3 : k = 3
            · subst k3
              have HP : Hid (pk 3 c = [42]) := by show _ = _; unfold pk; simp
              have HST : Hid (star (kAt Z) (j + 1) = true) := by show _ = _; unfold star; rw [HK.out]; simp
              clear hst k1
              go_wp2_with (at_builtin; refine O.append [42] _ rfl (by simp) (by simp; omega) rfl (.tmp 94) (.tmp 95) rfl acc.length rfl rfl 1 rfl rfl ?_; intro g4 c4 w4 O4 hk4)
              go_roundw
              case rel => exact ⟨j + 1, some ⟨g4, 0, none⟩, c4, by omega, by rw [HN.out, HP.out]; simp, by rw [HST.out], by go_num, by rw [HN.out, HP.out]; exact O4⟩
              case measure => simp [intOf]; omega
            · have e3 : (k == 3) = false := by simpa using k3
              by_cases k4 : k = 4
              · subst k4
                have HP : Hid (pk 4 c = [42, c]) := by show _ = _; unfold pk; simp
                have HST : Hid (star (kAt Z) (j + 1) = true) := by show _ = _; unfold star; rw [HK.out]; simp
                clear hst k1 k3
                go_wp2_with (at_builtin; refine O.append [42, c] _ rfl (by simp) (by simp; omega) rfl (.tmp 100) (.tmp 102) rfl acc.length rfl rfl 2 rfl rfl ?_; intro g4 c4 w4 O4 hk4)
                go_roundw
                case rel => exact ⟨j + 1, some ⟨g4, 0, none⟩, c4, by omega, by rw [HN.out, HP.out]; simp, by rw [HST.out], by go_num, by rw [HN.out, HP.out]; exact O4⟩
                case measure => simp [intOf]; omega
              · have e4 : (k == 4) = false := by simpa using k4
                have HST : Hid (star (kAt Z) (j + 1) = b) := by show _ = _; unfold star; rw [HK.out, hst]; simp [k3, k4]
                clear hst
                by_cases k2 : k = 2
                · subst k2
                  by_cases hd : dig c = true
                  · have HP : Hid (pk 2 c = [35]) := by show _ = _; unfold pk; rw [if_neg k1, if_pos ⟨rfl, hd⟩]
                    have hdb := (dig_iff c).1 hd
                    clear hd k1 k3 k4
                    go_wp2_with (at_builtin; refine O.append [35] _ rfl (by simp) (by simp; omega) rfl (.tmp 74) (.tmp 75) rfl acc.length rfl rfl 1 rfl rfl ?_; intro g4 c4 w4 O4 hk4)
                    go_roundw
                    case rel => exact ⟨j + 1, some ⟨g4, 0, none⟩, c4, by omega, by rw [HN.out, HP.out]; simp, by rw [HST.out], by go_num, by rw [HN.out, HP.out]; exact O4⟩
                    case measure => simp [intOf]; omega
                  · have hdn : ¬ (48 ≤ (c.toNat : Int) ∧ (c.toNat : Int) ≤ 57) := fun h => hd ((dig_iff c).2 h)
                    by_cases hl : lt c = true
                    · have HP : Hid (pk 2 c = [64]) := by show _ = _; unfold pk; rw [if_neg k1, if_neg (fun h => hd h.2), if_pos ⟨rfl, hl⟩]
                      have hlb := (lt_iff c).1 hl
                      clear hl hd hdn k1 k3 k4
                      go_wp2_with (at_builtin; refine O.append [64] _ rfl (by simp) (by simp; omega) rfl (.tmp 88) (.tmp 89) rfl acc.length rfl rfl 1 rfl rfl ?_; intro g4 c4 w4 O4 hk4)
                      go_roundw
                      case rel => exact ⟨j + 1, some ⟨g4, 0, none⟩, c4, by omega, by rw [HN.out, HP.out]; simp, by rw [HST.out], by go_num, by rw [HN.out, HP.out]; exact O4⟩
                      case measure => simp [intOf]; omega
                    · have HP : Hid (pk 2 c = [c]) := by show _ = _; unfold pk; rw [if_neg k1, if_neg (fun h => hd h.2), if_neg (fun h => hl h.2), if_neg k3, if_neg k4]
                      have hm : mk c = true := by
                        have := HSK.out
                        unfold sk at this
                        simpa [hl, hd] using this
                      clear hl hd hdn k1 k3 k4
                      rcases mark_byte c hm with h | h
                      · subst h
                        clear hm
                        go_wp2_with (at_builtin; refine O.append [45] _ rfl (by simp) (by simp; omega) rfl (.tmp 53) (.tmp 55) rfl acc.length rfl rfl 1 rfl rfl ?_; intro g4 c4 w4 O4 hk4)
                        go_roundw
                        case rel => exact ⟨j + 1, some ⟨g4, 0, none⟩, c4, by omega, by rw [HN.out, HP.out]; simp, by rw [HST.out], by go_num, by rw [HN.out, HP.out]; exact O4⟩
                        case measure => simp [intOf]; omega
                      · subst h
                        clear hm
                        go_wp2_with (at_builtin; refine O.append [46] _ rfl (by simp) (by simp; omega) rfl (.tmp 53) (.tmp 55) rfl acc.length rfl rfl 1 rfl rfl ?_; intro g4 c4 w4 O4 hk4)
                        go_roundw
                        case rel => exact ⟨j + 1, some ⟨g4, 0, none⟩, c4, by omega, by rw [HN.out, HP.out]; simp, by rw [HST.out], by go_num, by rw [HN.out, HP.out]; exact O4⟩
                        case measure => simp [intOf]; omega
                · have e2 : (k == 2) = false := by simpa using k2
                  have HP : Hid (pk k c = [c]) := by show _ = _; unfold pk; rw [if_neg k1, if_neg (fun h => k2 h.1), if_neg (fun h => k2 h.1), if_neg k3, if_neg k4]
                  clear k1 k2 k3 k4
                  go_wp2_with (at_builtin; refine O.append [c] _ rfl (by simp) (by simp; omega) rfl (.tmp 53) (.tmp 55) rfl acc.length rfl rfl 1 rfl rfl ?_; intro g4 c4 w4 O4 hk4)
                  go_roundw
                  case rel => exact ⟨j + 1, some ⟨g4, 0, none⟩, c4, by omega, by rw [HN.out, HP.out]; simp, by rw [HST.out], by go_num, by rw [HN.out, HP.out]; exact O4⟩
                  case measure => simp [intOf]; omega
      · have hje : j = t.size := by omega
        have hacc2 : pat S (kAt Z) S.length = acc := by rw [← hacc, hje, HtS.out]
        have Hpb : Hid (acc.all pb = true) := by show _ = _; rw [← hacc2]; exact pat_pb HG.out _ _ (Nat.le_refl _)
        have HM1 : Hid (∀ W : World, Calls Try.prog 15 #[.string (bs acc), .string t] W fun e w' => e = .returned (.tuple #[.bool true, .int .i64 0]) ∧ Below W.heap.size W w') := fun W => by
          rw [← Ht.out]
          exact match_bs acc S hal Hpb.out HG.out true (by rw [← hacc2]; exact pat_meets HG.out _ _ (Nat.le_refl _)) W
        obtain ⟨x, hx⟩ : ∃ x, rrun (acc ++ [63]) S S.length = x := ⟨_, rfl⟩
        obtain ⟨b, hst⟩ : ∃ b, star (kAt Z) j = b := ⟨_, rfl⟩
        have Hxb : Hid (b = false → x = false) := fun h => by
          rw [← hx, ← hacc2]
          exact pat_long HG.out _ (by rw [HtS.out, ← hje, hst, h])
        have HM2 : Hid (acc.length ≤ 47 → ∀ W : World, Calls Try.prog 15 #[.string (bs acc ++ ⟨#[63]⟩), .string t] W fun e w' => e = .returned (.tuple #[.bool x, .int .i64 0]) ∧ Below W.heap.size W w') := fun h47 W => by
          rw [← Ht.out]
          have e : bs acc ++ (⟨#[63]⟩ : ByteArray) = bs (acc ++ [63]) := bs_add acc [63]
          rw [e]
          exact match_bs (acc ++ [63]) S (by simp; omega) (by rw [List.all_append, Hpb.out]; decide) HG.out x hx W
        have H47 : Hid (t.size < 24 → acc.length ≤ 47) := fun h => by rw [← hacc]; have := pat_len S (kAt Z) j; omega
        have hbs : (bs acc).size = acc.length := bs_size acc
        rw [hacc] at O ⊢
        rw [hst]
        clear hacc hacc2 hx hst
        have htx := O.text acc.length rfl
        go_wp2_with fail
        refine (HM1.out _).mono ?_
        rintro e w3 ⟨rfl, hb3⟩
        have O3 := O.later hb3
        clear O htx hb3
        have htx := O3.text acc.length rfl
        go_upto_if 119 with fail
        go_cut [7, 8] (fun _ _ wx => Below w.heap.size w wx)
        case first =>
          by_cases h24 : t.size < 24
          · have h24' : (t.size : Int) < 24 := by omega
            cases b with
            | true =>
              go_wp2_with (go_at_call 15; refine (HM2.out (H47.out h24) _).mono ?_; rintro e w4 ⟨rfl, hb4⟩)
              go_meet
              case rel => exact (O3.later hb4).below
            | false =>
              have hx0 := Hxb.out rfl
              subst hx0
              go_wp2_with (go_at_call 15; refine (HM2.out (H47.out h24) _).mono ?_; rintro e w4 ⟨rfl, hb4⟩)
              go_meet
              case rel => exact (O3.later hb4).below
          · have h24' : ¬ (t.size : Int) < 24 := by omega
            go_wp2
            go_meet
            case rel => exact O3.below
        case rest =>
          have hb := hcut
          clear hcut htx O3 HM1 HM2 Hxb
          obtain ⟨T, HTk⟩ : ∃ T, Hid (skuOf o.data.toList = T) := ⟨_, rfl⟩
          have HGT : Hid (good T = true) := by show _ = _; rw [← HTk.out]; exact skuOf_good _
          obtain ⟨u, Hu⟩ : ∃ u, Hid (bs T = u) := ⟨_, rfl⟩
          go_wp2_with fail
          refine (clean_any o _ HO.out).mono ?_
          rintro e w5 ⟨rfl, hb5⟩
          obtain ⟨f2, Hf2⟩ : ∃ f2, Hid (clE o.data.toList = f2) := ⟨_, rfl⟩
          obtain ⟨q2, Hq2⟩ : ∃ q2, Hid (clS o.data.toList = q2) := ⟨_, rfl⟩
          rw [Hf2.out, Hq2.out]
          have hb' := below_on hb (Nat.le_refl _) hb5
          clear hb hb5
          go_upto_if 143 with fail
          go_cut [16] (fun v wx => v = .string u ∧ wx = w5)
          case first =>
            by_cases hf : f2 = 0
            · subst hf
              have HqS : Hid (q2 = T) := by show _ = _; rw [← HTk.out, ← Hq2.out]; unfold skuOf; rw [if_pos Hf2.out]
              go_wp2
              go_meet
              case rel => exact ⟨by rw [HqS.out, Hu.out], rfl⟩
            · have hf' : (f2 == 0) = false := by simpa using hf
              have hf2 : (f2 != 0) = true := by rw [bne, hf']; rfl
              have HqS : Hid (kS = T) := by show _ = _; rw [← HTk.out]; unfold skuOf; rw [if_neg (by rw [Hf2.out]; exact hf)]
              clear hf
              go_wp2
              go_meet
              case rel => exact ⟨by rw [← Hu.out, ← HqS.out]; rfl, rfl⟩
          case rest =>
            obtain ⟨rfl, hwq⟩ := hcut
            subst hwq
            obtain ⟨y, hy⟩ : ∃ y, (S == T) = y := ⟨_, rfl⟩
            have hyt : (t.toList == u.toList) = y := by rw [← Ht.out, ← Hu.out, eq_text, hy]
            have HM3 : Hid (∀ W : World, Calls Try.prog 15 #[.string t, .string u] W fun e w' => e = .returned (.tuple #[.bool y, .int .i64 0]) ∧ Below W.heap.size W w') := fun W => by
              rw [← Ht.out, ← Hu.out]
              exact match_bs S T (by omega) (by
                rw [List.all_eq_true]
                intro c hc
                obtain ⟨i, hi, rfl⟩ := List.getElem_of_mem hc
                have := sk_at HG.out i hi
                simp only [List.getD, List.getElem?_eq_getElem hi, Option.getD_some] at this
                exact (sk_facts _ this).1) HGT.out y (by rw [sku_meets S T HG.out, hy]) W
            clear hy
            go_wp2_with (go_at_call 15; refine (HM3.out _).mono ?_; rintro e w6 ⟨rfl, hb6⟩)
            all_goals go_ret
            all_goals refine ⟨?_, below_on hb' (Nat.le_refl _) hb6⟩
            all_goals first | rfl | simp
end Go.Proofs.Ytakeckpfblinpaa
