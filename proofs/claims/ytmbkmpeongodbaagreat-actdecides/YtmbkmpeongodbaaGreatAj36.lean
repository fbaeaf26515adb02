/- EJd EJn -/
import Derived.Test.YtmbkmpeongodbaaGreatAj34
import Derived.Test.YtmbkmpeongodbaaGreatAj24
import Derived.Test.YtmbkmpeongodbaaGreatAj35
import Derived.Test.YtmbkmpeongodbaaGreatAj27
import Derived.Test.YtmbkmpeongodbaaGreatAj28
namespace Go.Proofs.YtmbkmpeongodbaaGreat
open Go.RowKit
attribute [local go_sem ↓] ldP_eq stP_eq ldD_eq stD_eq K.ld28_eq K.st28_eq
attribute [local go_sem] cells_PV PC_size
def dsB (s : ByteArray) (r : Int) (e : K.En) : Bool := (decide (s.size = 0) || (e.sku.toList == s.toList)) && (decide (r < 0) || (e.rep == r))
theorem snocF {L : List K.En} {k : Nat} (h : k < L.length) (p : K.En → Bool) : (L.take (k + 1)).filter p = (L.take k).filter p ++ (if p (L.getD k K.en0) = true then [L.getD k K.en0] else []) := by
 rw [K.take_snoc L k h, List.filter_append]
 congr 1
 cases hq : p (L.getD k K.en0)
 ·rw [List.filter_cons_of_neg (by rw [hq]; decide)]; rfl
 ·rw [List.filter_cons_of_pos (by rw [hq])]; rfl
theorem en_f3 {w : World} {p : Addr} {e : K.En} (A : K.EnAt w p e) : w.cell? ⟨p.block, p.off + 3, none⟩ = some (.int .i64 e.qty) := by
 have h := A.c3
 have hs := World.cell?_spot A.c0
 obtain ⟨b, o, sp⟩ := p
 simp at hs
 subst hs
 rwa [Addr.add_lit] at h
theorem resP1 {w : World} {g : Nat} {fn : Func} {p : Tmp} {m : Pv} (h : fn.results = #[.cell p 26]) {tmps : Array Value} (hp : tmps.getD p undef = .pointer (some ⟨g, 0, none⟩)) (A : PBox w g m) :
  (results fn tmps).run Tryz.prog w = .ok (PV m) w := by
 have hl := run_lvP A.at
 simp only [results, h]
 rw [Array.getD_eq_getD_getElem?] at hp
 simp [hp, asAddr, hl]
set_option maxRecDepth 100000 in
set_option maxHeartbeats 6400000 in
theorem refDots8_any (ao : Option Addr) (n cap : Nat) (L : List K.En) (s : ByteArray) (r : Int) (w : World) (hS : K.ESrc w ao n cap L) : Calls Tryz.prog 25 #[.slice ao n cap, .string s, .int .i64 r] w fun x w' => GivesP w w' x (CanonOf (dotsG ((L.filter (dsB s r)).map dotOf))) := by
 have b1 := below_new w (.cells #[.slice none 0 0, .slice none 0 0] 26)
 have x1 : PBox (w.alloc (.cells #[.slice none 0 0, .slice none 0 0] 26)) w.heap.size pv0 := pbox_new w pv0
 obtain ⟨w2, hw1⟩ : ∃ w1, w.alloc (.cells #[.slice none 0 0, .slice none 0 0] 26) = w1 := ⟨_, rfl⟩
 obtain ⟨g1, hg1⟩ : ∃ g1, w.heap.size = g1 := ⟨_, rfl⟩
 rw [hw1] at b1 x1
 rw [hg1] at x1
 have HX2 : Hid (PBox w2 g1 pv0 ∧ K.ESrc w2 ao n cap L ∧ w.heap.size = g1) := ⟨x1, hS.below b1, hg1⟩
 have HB2 := hide b1
 have HL : Hid (L.length = n ∧ n ≤ 3518437208883) := ⟨hS.1, hS.2.2.2.2⟩
 have hnb := HL.out.2
 clear b1 x1 hS
 go_enter Tryz.func25, Tryz.ntmps25
 go_wp2_with fail
 clear hw1 hg1
 go_loopw [7, 8] (fun v i wr => ∃ (k m : Nat) (ap : Option Addr) (c : Nat), k ≤ n ∧ (((L.take k).filter (dsB s r)).map dotOf).length = m ∧ v = .slice ap m c ∧ i = .int .i64 (k : Int) ∧ Hid (OwnD w2.heap.size w2.heap.size w2 wr ap c (((L.take k).filter (dsB s r)).map dotOf))) (fun _ i _ => n - (intOf i).toNat)
 case atStart => exact ⟨0, 0, none, 0, Nat.zero_le _, rfl, rfl, rfl, World.ownsRow_nil _ _ _ _, Below.refl _ _, Nat.le_refl _, Nat.le_refl _⟩
 case round =>
  obtain ⟨k, m, ap, c, hk, hm, rfl, rfl, HO⟩ := hrel
  rename World => wr
  obtain ⟨acc, Hacc⟩ : ∃ acc, Hid (((L.take k).filter (dsB s r)).map dotOf = acc) := ⟨_, rfl⟩
  have Hal : Hid (acc.length = m) := by show _ = _; rw [← Hacc.out]; exact hm
  have hmk : m ≤ k := by
   rw [← hm, List.length_map]
   have h1 := List.length_filter_le (dsB s r) (L.take k)
   have h2 := List.length_take_le k L
   omega
  clear hm
  rw [Hacc.out] at HO
  by_cases hlt : k < n
  ·have hlti : (k : Int) < (n : Int) := by omega
   obtain ⟨ad, hao, A0⟩ := (HX2.out.2.1.below HO.out.below).at k hlt
   subst hao
   obtain ⟨e, He⟩ : ∃ e, Hid (L.getD k K.en0 = e) := ⟨_, rfl⟩
   rw [He.out] at A0
   have HT := hide (snocF (k := k) (L := L) (by rw [HL.out.1]; exact hlt) (dsB s r))
   rw [He.out] at HT
   have l7 : (ldD (.pointer (some (ad.add (k * 4))))).run Tryz.prog wr = .ok (.agg #[.int .i64 e.rep, .int .i64 e.num]) wr := run_ldD (r := ⟨e.rep, e.num⟩) ⟨A0.c0, A0.c1⟩
   have l8 := en_f2 A0
   have l9 := A0.c0
   have Hlt : Hid (k < n ∧ m ≤ k) := ⟨hlt, hmk⟩
   have HltA := Hlt
   clear A0 hlt hmk
   by_cases h0 : s.size = 0
   ·have e0 := K.empty_yes s h0
    by_cases hr : r < 0
    ·skip
     have hd : dsB s r e = true := by unfold dsB; simp [*]
     have HN : Hid (((L.take (k + 1)).filter (dsB s r)).map dotOf = acc ++ [dotOf e]) := by
      show _ = _
      rw [HT.out, hd, List.map_append, Hacc.out]
      simp
     have HNl : Hid ((((L.take (k + 1)).filter (dsB s r)).map dotOf).length = m + 1) := by
      show _ = _
      rw [HN.out]
      simp [Hal.out]
     clear hd
     go_wp2_with (at_builtin; go_loud (refine (HO.out.later (below_new wr _)).appendS [dotOf e] (some ⟨wr.heap.size, 0, none⟩) 1 1 (lit_rsrc wr [dotOf e] _ rfl 44 1 rfl (by omega)) (by have := Hal.out; have := Hlt.out; omega) rfl (.tmp 40) (.tmp 46) rfl m Hal.out rfl rfl ?_); intro ao8 c8 w8 O8; have HO8 := hide O8; clear O8)
     clear l7 l8
     go_roundw
     case rel => exact ⟨k + 1, m + 1, ao8, c8, Hlt.out.1, by rw [List.length_map] at *; exact HNl.out, rfl, by simp, by show OwnD _ _ _ _ _ _ _; rw [HN.out]; exact HO8.out⟩
     case measure => simp [intOf]; have := Hlt.out; omega
    ·cases hq : (e.rep == r) with
     | true =>
      have hd : dsB s r e = true := by unfold dsB; simp [*]
      have HN : Hid (((L.take (k + 1)).filter (dsB s r)).map dotOf = acc ++ [dotOf e]) := by
       show _ = _
       rw [HT.out, hd, List.map_append, Hacc.out]
       simp
      have HNl : Hid ((((L.take (k + 1)).filter (dsB s r)).map dotOf).length = m + 1) := by
       show _ = _
       rw [HN.out]
       simp [Hal.out]
      clear hd
      go_wp2_with (at_builtin; go_loud (refine (HO.out.later (below_new wr _)).appendS [dotOf e] (some ⟨wr.heap.size, 0, none⟩) 1 1 (lit_rsrc wr [dotOf e] _ rfl 44 1 rfl (by omega)) (by have := Hal.out; have := Hlt.out; omega) rfl (.tmp 40) (.tmp 46) rfl m Hal.out rfl rfl ?_); intro ao8 c8 w8 O8; have HO8 := hide O8; clear O8)
      clear l7 l8
      go_roundw
      case rel => exact ⟨k + 1, m + 1, ao8, c8, Hlt.out.1, by rw [List.length_map] at *; exact HNl.out, rfl, by simp, by show OwnD _ _ _ _ _ _ _; rw [HN.out]; exact HO8.out⟩
      case measure => simp [intOf]; have := Hlt.out; omega
     | false =>
      have hd : dsB s r e = false := by unfold dsB; simp [*]
      have HN : Hid (((L.take (k + 1)).filter (dsB s r)).map dotOf = acc) := by
       show _ = _
       rw [HT.out, hd, List.map_append, Hacc.out]
       simp
      have HNl : Hid ((((L.take (k + 1)).filter (dsB s r)).map dotOf).length = m) := by
       show _ = _
       rw [HN.out]
       simp [Hal.out]
      clear hd
      go_wp2_with fail
      clear l7 l8
      go_roundw
      case rel => exact ⟨k + 1, m, ap, c, Hlt.out.1, HNl.out, rfl, by simp, by show OwnD _ _ _ _ _ _ _; rw [HN.out]; exact HO.out⟩
      case measure => simp [intOf]; have := Hlt.out; omega
   ·have e0 := K.empty_no s h0
    cases hs : (e.sku.toList == s.toList) with
    | true =>
     by_cases hr : r < 0
     ·skip
      have hd : dsB s r e = true := by unfold dsB; simp [*]
      have HN : Hid (((L.take (k + 1)).filter (dsB s r)).map dotOf = acc ++ [dotOf e]) := by
       show _ = _
       rw [HT.out, hd, List.map_append, Hacc.out]
       simp
      have HNl : Hid ((((L.take (k + 1)).filter (dsB s r)).map dotOf).length = m + 1) := by
       show _ = _
       rw [HN.out]
       simp [Hal.out]
      clear hd
      go_wp2_with (at_builtin; go_loud (refine (HO.out.later (below_new wr _)).appendS [dotOf e] (some ⟨wr.heap.size, 0, none⟩) 1 1 (lit_rsrc wr [dotOf e] _ rfl 44 1 rfl (by omega)) (by have := Hal.out; have := Hlt.out; omega) rfl (.tmp 40) (.tmp 46) rfl m Hal.out rfl rfl ?_); intro ao8 c8 w8 O8; have HO8 := hide O8; clear O8)
      clear l7 l8
      go_roundw
      case rel => exact ⟨k + 1, m + 1, ao8, c8, Hlt.out.1, by rw [List.length_map] at *; exact HNl.out, rfl, by simp, by show OwnD _ _ _ _ _ _ _; rw [HN.out]; exact HO8.out⟩
      case measure => simp [intOf]; have := Hlt.out; omega
     ·cases hq : (e.rep == r) with
      | true =>
       have hd : dsB s r e = true := by unfold dsB; simp [*]
       have HN : Hid (((L.take (k + 1)).filter (dsB s r)).map dotOf = acc ++ [dotOf e]) := by
        show _ = _
        rw [HT.out, hd, List.map_append, Hacc.out]
        simp
       have HNl : Hid ((((L.take (k + 1)).filter (dsB s r)).map dotOf).length = m + 1) := by
        show _ = _
        rw [HN.out]
        simp [Hal.out]
       clear hd
       go_wp2_with (at_builtin; go_loud (refine (HO.out.later (below_new wr _)).appendS [dotOf e] (some ⟨wr.heap.size, 0, none⟩) 1 1 (lit_rsrc wr [dotOf e] _ rfl 44 1 rfl (by omega)) (by have := Hal.out; have := Hlt.out; omega) rfl (.tmp 40) (.tmp 46) rfl m Hal.out rfl rfl ?_); intro ao8 c8 w8 O8; have HO8 := hide O8; clear O8)
       clear l7 l8
       go_roundw
       case rel => exact ⟨k + 1, m + 1, ao8, c8, Hlt.out.1, by rw [List.length_map] at *; exact HNl.out, rfl, by simp, by show OwnD _ _ _ _ _ _ _; rw [HN.out]; exact HO8.out⟩
       case measure => simp [intOf]; have := Hlt.out; omega
      | false =>
       have hd : dsB s r e = false := by unfold dsB; simp [*]
       have HN : Hid (((L.take (k + 1)).filter (dsB s r)).map dotOf = acc) := by
        show _ = _
        rw [HT.out, hd, List.map_append, Hacc.out]
        simp
       have HNl : Hid ((((L.take (k + 1)).filter (dsB s r)).map dotOf).length = m) := by
        show _ = _
        rw [HN.out]
        simp [Hal.out]
       clear hd
       go_wp2_with fail
       clear l7 l8
       go_roundw
       case rel => exact ⟨k + 1, m, ap, c, Hlt.out.1, HNl.out, rfl, by simp, by show OwnD _ _ _ _ _ _ _; rw [HN.out]; exact HO.out⟩
       case measure => simp [intOf]; have := Hlt.out; omega
    | false =>
     have hd : dsB s r e = false := by unfold dsB; simp [*]
     have HN : Hid (((L.take (k + 1)).filter (dsB s r)).map dotOf = acc) := by
      show _ = _
      rw [HT.out, hd, List.map_append, Hacc.out]
      simp
     have HNl : Hid ((((L.take (k + 1)).filter (dsB s r)).map dotOf).length = m) := by
      show _ = _
      rw [HN.out]
      simp [Hal.out]
     clear hd
     go_wp2_with fail
     clear l7 l8
     go_roundw
     case rel => exact ⟨k + 1, m, ap, c, Hlt.out.1, HNl.out, rfl, by simp, by show OwnD _ _ _ _ _ _ _; rw [HN.out]; exact HO.out⟩
     case measure => simp [intOf]; have := Hlt.out; omega
  ·have hlti : ¬ (k : Int) < (n : Int) := by omega
   obtain rfl : k = n := by omega
   have HAc : Hid (acc = (L.filter (dsB s r)).map dotOf) := by show _ = _; rw [← Hacc.out, List.take_of_length_le (by have := HL.out.1; omega)]
   obtain ⟨hsr, hnw⟩ := HO.out.src (by have := Hal.out; omega)
   have hsr2 : RSrc wr ap m c acc := by have := Hal.out; rw [this] at hsr; exact hsr
   have HC7 := hide (refOf_any ap m c acc wr hsr2 (by omega))
   have HBr := hide (HB2.out.trans (HO.out.below.mono HB2.out.size))
   have HXr := hide (HX2.out.1.below HO.out.below)
   have HG : Hid (w.heap.size = g1 ∧ g1 < wr.heap.size) := ⟨HX2.out.2.2, HXr.out.lt⟩
   clear hsr hnw hsr2 hmk
   go_wp2_with fail
   refine HC7.out.mono ?_
   rintro x w8 ⟨p, rfl, S8, n8, b8, c8⟩
   have X8 := HXr.out.below b8
   have t8 := run_stP (p' := p) X8
   have HX8 : Hid (PBox (w8.setRow g1 (PC p)) g1 p) := setRow_heap _ _ _ _ _ _ X8
   have HE : Hid (PSrc (w8.setRow g1 (PC p)) p ∧ PNew w.heap.size p ∧ Below w.heap.size w (w8.setRow g1 (PC p)) ∧ CanonOf (dotsG ((L.filter (dsB s r)).map dotOf)) p.P) :=
    ⟨psrc_off S8 (fun ad h => setRow_other _ _ _ _ (by have := n8.1 ad h; have := HG.out; omega)) (fun ad h => setRow_other _ _ _ _ (by have := n8.2 ad h; have := HG.out; omega)), n8.mono (by have := HG.out; omega), below_setRow (HBr.out.trans (b8.mono HBr.out.size)) (by have := HG.out; omega), by rw [← HAc.out]; exact c8⟩
   clear S8 n8 b8 c8 X8 HC7
   go_wp2_with fail
   refine bodyPost_ret (resP1 rfl rfl HX8.out) rfl ?_
   exact ⟨p, rfl, HE.out⟩
def smB (s : ByteArray) (r : Int) (e : K.En) : Bool := (e.sku.toList == s.toList) && (decide (r < 0) || (e.rep == r))
set_option maxRecDepth 100000 in
set_option maxHeartbeats 6400000 in
theorem refSum8_any (ao : Option Addr) (n cap : Nat) (L : List K.En) (s : ByteArray) (r : Int) (w : World) (hS : K.ESrc w ao n cap L) (hc : K.chk L = 0) : Calls Tryz.prog 29 #[.slice ao n cap, .string s, .int .i64 r] w fun x w' => x = .returned (.tuple #[.int .i64 (K.ttl (L.filter (smB s r))), .int .i64 ((L.filter (smB s r)).length : Int)]) ∧ Below w.heap.size w w' := by
 have HS := hide hS
 have HL : Hid (L.length = n ∧ n ≤ 3518437208883) := ⟨hS.1, hS.2.2.2.2⟩
 have hnb := HL.out.2
 have HOk := hide (K.chk_all hc)
 have hlen := K.chk_len hc
 rw [HL.out.1] at hlen
 clear hS hc
 go_enter Tryz.func29, Tryz.ntmps29
 go_wp2_with fail
 go_loopw [8, 9, 10] (fun v u i wr => ∃ (k m : Nat) (t : Int), k ≤ n ∧ v = .int .i64 t ∧ u = .int .i64 (m : Int) ∧ i = .int .i64 (k : Int) ∧ Hid (K.ttl ((L.take k).filter (smB s r)) = t ∧ ((L.take k).filter (smB s r)).length = m) ∧ Hid (Below w.heap.size w wr)) (fun _ _ i _ => n - (intOf i).toNat)
 case atStart => exact ⟨0, 0, 0, Nat.zero_le _, rfl, rfl, rfl, ⟨rfl, rfl⟩, Below.refl _ _⟩
 case round =>
  obtain ⟨k, m, t, hk, rfl, rfl, rfl, HA, HBr⟩ := hrel
  rename World => wr
  by_cases hlt : k < n
  ·have hlti : (k : Int) < (n : Int) := by omega
   obtain ⟨ad, hao, A0⟩ := (HS.out.below HBr.out).at k hlt
   subst hao
   obtain ⟨e, He⟩ : ∃ e, Hid (L.getD k K.en0 = e) := ⟨_, rfl⟩
   rw [He.out] at A0
   have HT := hide (snocF (k := k) (L := L) (by rw [HL.out.1]; exact hlt) (smB s r))
   rw [He.out] at HT
   have hqe := HOk.out e (by rw [← He.out, show L.getD k K.en0 = L[k]'(by rw [HL.out.1]; exact hlt) by simp [List.getD, HL.out.1, hlt]]; exact List.getElem_mem _)
   have htb := K.ttl_bd ((L.take k).filter (smB s r)) (fun x hx => HOk.out x (List.mem_of_mem_take (List.mem_filter.1 hx).1))
   rw [HA.out.1, HA.out.2] at htb
   have hmk : m ≤ k := by
    rw [← HA.out.2]
    have h1 := List.length_filter_le (smB s r) (L.take k)
    have h2 := List.length_take_le k L
    omega
   have hnk : m ≤ 16000000000 := by omega
   have l8 := en_f2 A0
   have l9 := A0.c0
   have l10 := en_f3 A0
   have Hlt : Hid (k < n ∧ m ≤ k) := ⟨hlt, hmk⟩
   clear A0 hlt hmk
   cases hs : (e.sku.toList == s.toList) with
   | true =>
    by_cases hr : r < 0
    ·skip
     have hd : smB s r e = true := by unfold smB; simp [*]
     have HN : Hid (K.ttl ((L.take (k + 1)).filter (smB s r)) = t + e.qty ∧ ((L.take (k + 1)).filter (smB s r)).length = m + 1) := by
      show _ ∧ _
      rw [HT.out, hd, if_pos (by decide), K.ttl_append, List.length_append, HA.out.1, HA.out.2]
      simp [K.ttl]
     clear hd
     have hw : IntKind.i64.wrap (t + e.qty) = t + e.qty := by rw [IntKind.wrap_i64]; omega
     have hw2 : IntKind.i64.wrap ((m : Int) + 1) = ((m + 1 : Nat) : Int) := by rw [IntKind.wrap_i64]; omega
     clear htb hqe hnk
     go_wp2_with fail
     clear hw hw2
     go_roundw
     case rel => exact ⟨k + 1, m + 1, t + e.qty, Hlt.out.1, by simp, by simp, by simp, HN.out, HBr.out⟩
     case measure => simp [intOf]; have := Hlt.out; omega
    ·cases hq : (e.rep == r) with
     | true =>
      have hd : smB s r e = true := by unfold smB; simp [*]
      have HN : Hid (K.ttl ((L.take (k + 1)).filter (smB s r)) = t + e.qty ∧ ((L.take (k + 1)).filter (smB s r)).length = m + 1) := by
       show _ ∧ _
       rw [HT.out, hd, if_pos (by decide), K.ttl_append, List.length_append, HA.out.1, HA.out.2]
       simp [K.ttl]
      clear hd
      have hw : IntKind.i64.wrap (t + e.qty) = t + e.qty := by rw [IntKind.wrap_i64]; omega
      have hw2 : IntKind.i64.wrap ((m : Int) + 1) = ((m + 1 : Nat) : Int) := by rw [IntKind.wrap_i64]; omega
      clear htb hqe hnk
      go_wp2_with fail
      clear hw hw2
      go_roundw
      case rel => exact ⟨k + 1, m + 1, t + e.qty, Hlt.out.1, by simp, by simp, by simp, HN.out, HBr.out⟩
      case measure => simp [intOf]; have := Hlt.out; omega
     | false =>
      have hd : smB s r e = false := by unfold smB; simp [*]
      have HN : Hid (K.ttl ((L.take (k + 1)).filter (smB s r)) = t ∧ ((L.take (k + 1)).filter (smB s r)).length = m) := by
       show _ ∧ _
       rw [HT.out, hd, if_neg (by decide), K.ttl_append, List.length_append, HA.out.1, HA.out.2]
       simp [K.ttl]
      clear hd
      clear htb hqe hnk
      go_wp2_with fail
      go_roundw
      case rel => exact ⟨k + 1, m, t, Hlt.out.1, rfl, rfl, by simp, HN.out, HBr.out⟩
      case measure => simp [intOf]; have := Hlt.out; omega
   | false =>
    have hd : smB s r e = false := by unfold smB; simp [*]
    have HN : Hid (K.ttl ((L.take (k + 1)).filter (smB s r)) = t ∧ ((L.take (k + 1)).filter (smB s r)).length = m) := by
     show _ ∧ _
     rw [HT.out, hd, if_neg (by decide), K.ttl_append, List.length_append, HA.out.1, HA.out.2]
     simp [K.ttl]
    clear hd
    clear htb hqe hnk
    go_wp2_with fail
    go_roundw
    case rel => exact ⟨k + 1, m, t, Hlt.out.1, rfl, rfl, by simp, HN.out, HBr.out⟩
    case measure => simp [intOf]; have := Hlt.out; omega
  ·have hlti : ¬ (k : Int) < (n : Int) := by omega
   obtain rfl : k = n := by omega
   have HF : Hid (K.ttl (L.filter (smB s r)) = t ∧ (L.filter (smB s r)).length = m) := by
    have h := HA.out
    rw [List.take_of_length_le (by have := HL.out.1; omega)] at h
    exact h
   go_wp2_with fail
   go_ret2
   exact ⟨by rw [HF.out.1, HF.out.2]; rfl, HBr.out⟩
end Go.Proofs.YtmbkmpeongodbaaGreat
namespace Go.Proofs.YtmbkmpeongodbaaGreat.K
open Go.RowKit Go.Maps Go.Sort
def Hs (D : DataW Int) (L : List En) : Prop := ∀ s : ByteArray, has D (.string s.data.toList) = true ↔ ∃ e ∈ L, e.sku = s
theorem hs_start : Hs (.map []) [] := fun s => by simp [has]
theorem hs_step {D : DataW Int} {L : List En} (h : Hs D L) (hm : IsMap D) (e : En) (d : DataW Int) : Hs (D.put (.string e.sku.data.toList) d) (L ++ [e]) := fun s => by
 by_cases hs : e.sku = s
 ·subst hs
  rw [has_put_same hm (k := .string e.sku.data.toList) (show WideAt.IsKeyLit (.string e.sku.data.toList) from trivial)]
  exact ⟨fun _ => ⟨e, by simp, rfl⟩, fun _ => rfl⟩
 ·rw [has_put_other (fun he => hs (str_inj he).symm), h s]
  constructor
  ·rintro ⟨x, hx, rfl⟩; exact ⟨x, by simp [hx], rfl⟩
  ·rintro ⟨x, hx, rfl⟩
   rcases List.mem_append.1 hx with hx | hx
   ·exact ⟨x, hx, rfl⟩
   ·simp at hx; subst hx; exact absurd rfl hs
theorem lines_of_keysI {P : Program} {k : TypeId} {R : Value → Option (DataW Int × List MemPlace)} {w : World} {b n : Nat} {D : DataW Int} {L : List En} (hown : w.ownsMap P k R b n D) (K : Keyed P k) (hk : P.underlying k = some .string) (hM : Hs D L) (hc : chk L = 0)
  {ss : List (List UInt8)} (hp : ss.Perm (strKeys D)) : LinesOf L ((ss.mergeSort leB).map (fun x => lineOf L ⟨x.toArray⟩)) 0 := by
 obtain ⟨es, hD, hpw, _⟩ := hown.entries K
 obtain ⟨es', hD', hko⟩ := hown.keysOf
 obtain rfl : es = es' := by rw [hD] at hD'; simpa using hD'
 subst hD
 have hks : ∀ p ∈ es, ∃ x, p.1 = .string x := fun p hp => by obtain ⟨v, hv⟩ := hko p hp; obtain ⟨x, _, hx, _⟩ := Maps.keyOf_str hk hv; exact ⟨x, hx⟩
 have hnd : (strKeys (.map es)).Nodup := by
  show (es.map fun p => strOf p.1).Nodup
  refine List.pairwise_map.2 (hpw.imp_of_mem fun {p q} hp' hq' hne e => hne ?_)
  obtain ⟨a, ha⟩ := hks p hp'
  obtain ⟨b, hb⟩ := hks q hq'
  rw [ha, hb] at e ⊢
  exact congrArg _ e
 have hmem : ∀ x, x ∈ strKeys (.map es) ↔ has (.map es) (.string x) = true := fun x => by
  rw [has_eq, List.any_eq_true]
  show x ∈ es.map (fun p => strOf p.1) ↔ _
  rw [List.mem_map]
  constructor
  ·rintro ⟨p, hp', rfl⟩
   obtain ⟨a, ha⟩ := hks p hp'
   exact ⟨p, hp', by rw [ha]; simp [Lit.sameKey, strOf]⟩
  ·rintro ⟨p, hp', hs⟩
   obtain ⟨a, ha⟩ := hks p hp'
   rw [ha] at hs
   exact ⟨p, hp', by rw [ha]; simpa [Lit.sameKey, strOf] using hs⟩
 have hT : (ss.mergeSort leB).Perm (strKeys (.map es)) := (List.mergeSort_perm ss leB).trans hp
 have tr : ∀ a b c : List UInt8, leB a b = true → leB b c = true → leB a c = true := fun a b c h1 h2 => by simp only [leB, decide_eq_true_eq] at *; exact List.le_trans h1 h2
 have tott : ∀ a b : List UInt8, (leB a b || leB b a) = true := fun a b => by simp only [leB, Bool.or_eq_true, decide_eq_true_eq]; exact List.le_total a b
 have hs1 : (ss.mergeSort leB).Pairwise (fun a b => leB a b = true) := List.pairwise_mergeSort tr tott ss
 have hnd2 : (ss.mergeSort leB).Nodup := hT.nodup_iff.2 hnd
 have hlt : (ss.mergeSort leB).Pairwise (fun a b => a < b) := (hs1.and hnd2).imp (fun {a b} h => by
  obtain ⟨h1, h2⟩ := h
  simp only [leB, decide_eq_true_eq] at h1
  refine Classical.byContradiction fun h => h2 (List.le_antisymm h1 ?_)
  exact List.not_lt.1 h)
 have hin : ∀ x, x ∈ ss.mergeSort leB ↔ ∃ e ∈ L, e.sku = ⟨x.toArray⟩ := fun x => by
  rw [hT.mem_iff, hmem]
  have := hM ⟨x.toArray⟩
  simpa using this
 refine Or.inr ⟨hc, rfl, ?_, fun l => ?_⟩
 ·rw [List.pairwise_map]
  refine hlt.imp_of_mem (fun {a b} ha hb hab => ?_)
  obtain ⟨e, he, hea⟩ := (hin a).1 ha
  obtain ⟨f, hf, hfb⟩ := (hin b).1 hb
  rw [← hea, ← hfb, line_sku L e he, line_sku L f hf, hea, hfb]
  simpa using hab
 ·rw [List.mem_map]
  constructor
  ·rintro ⟨x, hx, rfl⟩
   obtain ⟨e, he, hea⟩ := (hin x).1 hx
   exact ⟨e, he, by rw [hea]⟩
  ·rintro ⟨e, he, rfl⟩
   refine ⟨e.sku.data.toList, (hin _).2 ⟨e, he, ?_⟩, ?_⟩
   ·cases hq : e.sku; simp
   ·cases hq : e.sku; simp
def RI (v : Value) : Option (DataW Int × List MemPlace) :=
 match v with
 | .int .i64 x => some (.held x, [])
 | _ => none
theorem RI_mk (x : Int) : RI (.int .i64 x) = some (.held x, []) := rfl
def MapK (w : World) (b k : Nat) (L : List En) : Prop := ∃ D, w.ownsMap Tryz.prog 9 RI b k D ∧ Hs D L
theorem MapK.put {w0 W : World} {b k m : Nat} {L : List En} (h : MapK W b k L) (hk : k < maxLen) (e : En) (hs : e.sku.size ≤ maxLen) (hb : Below m w0 W) (hm : m ≤ b) (hm2 : m ≤ W.heap.size) :
  ∃ W', (Instr.mapUpdate 150 (.map (some b)) (.string e.sku) (.int .i64 1)).run Tryz.prog W = .ok () W' ∧ MapK W' b (k + 1) (L ++ [e]) ∧ Below m w0 W' := by
 obtain ⟨D, ho, hD⟩ := h
 obtain ⟨W', hr, ho', hg⟩ := ho.update law9 Tryz.underlying150 hk (Go.WideMaps.keyOf_string_mk Tryz.underlying9 hs) (RI_mk 1)
 exact ⟨W', hr, ⟨_, ho', hs_step hD ho.isMap e _⟩, hb.grown hg hm2 (fun j hj => by cases hj; exact hm)⟩
def LnN (L : List En) (m : Nat) : Prop := ∃ R, LinesOf L R 0 ∧ R.length = m
theorem MapK.count {w : World} {b k : Nat} {L : List En} (h : MapK w b k L) (hc : chk L = 0) (ty : TypeId) : ∃ m : Nat, (Builtin.len_ #[150] ty #[.map (some b)]).run Tryz.prog w = .ok (.int .i64 (m : Int)) w ∧ LnN L m := by
 obtain ⟨D, ho, hD⟩ := h
 refine ⟨Maps.size D, ho.len Tryz.underlying150 ty, _, lines_of_keysI ho law9 Tryz.underlying9 hD hc (List.Perm.refl _), ?_⟩
 obtain ⟨es, rfl, -⟩ := ho.entries law9
 rw [List.length_map, (List.mergeSort_perm _ _).length_eq]
 show (es.map fun p => strOf p.1).length = es.length
 rw [List.length_map]
end Go.Proofs.YtmbkmpeongodbaaGreat.K
namespace Go.Proofs.YtmbkmpeongodbaaGreat
open Go.RowKit
attribute [local go_sem ↓] ldP_eq stP_eq ldAc_eq stAc_eq ldLm_eq stLm_eq
attribute [local go_sem] cells_PV PC_size cells_AcV AcC_size cells_LmV LmC_size
set_option maxRecDepth 100000 in
set_option maxHeartbeats 3200000 in
theorem refLines8_any (ao : Option Addr) (n cap : Nat) (L : List K.En) (w : World) (hS : K.ESrc w ao n cap L) (hc : K.chk L = 0) :
  Calls Tryz.prog 64 #[.slice ao n cap] w fun x w' => ∃ m : Nat, x = .returned (.int .i64 (m : Int)) ∧ K.LnN L m ∧ Below w.heap.size w w' := by
 have HS := hide hS
 have HL : Hid (L.length = n ∧ n ≤ 3518437208883) := ⟨hS.1, hS.2.2.2.2⟩
 have hnb := HL.out.2
 have HC := hide hc
 have HM0 : Hid (K.MapK (w.alloc (.map #[] 0)) w.heap.size 0 []) := ⟨_, World.ownsMap_made _ _ _ _, K.hs_start⟩
 have HB0 := hide (below_new w (.map #[] 0))
 have hmm := @run_makeMap Tryz.prog
 obtain ⟨G, hG⟩ : ∃ G, w.heap.size = G := ⟨_, rfl⟩
 have HG := hide hG
 rw [hG] at HM0
 clear hS hc
 go_enter Tryz.func64, Tryz.ntmps64
 go_wp2_with fail
 clear hG
 go_loopw [4] (fun i wr => ∃ k : Nat, k ≤ n ∧ i = .int .i64 (k : Int) ∧ Hid (K.MapK wr G k (L.take k)) ∧ Hid (Below w.heap.size w wr)) (fun i _ => n - (intOf i).toNat)
 case atStart => exact ⟨0, Nat.zero_le _, rfl, HM0, HB0⟩
 case round =>
  obtain ⟨k, hk, rfl, HM, HB⟩ := hrel
  rename World => wr
  by_cases hlt : k < n
  ·have hlti : (k : Int) < (n : Int) := by omega
   obtain ⟨ad, hao, A0⟩ := (HS.out.below HB.out).at k hlt
   subst hao
   obtain ⟨e, He⟩ : ∃ e, Hid (L.getD k K.en0 = e) := ⟨_, rfl⟩
   have hsk := HS.out.sku k hlt
   rw [He.out] at A0 hsk
   have HT := hide (K.take_snoc L k (by rw [HL.out.1]; exact hlt))
   rw [He.out] at HT
   obtain ⟨w2, hr2, m2, b2⟩ := HM.out.put (by unfold maxLen; omega) e hsk HB.out (by have := HG.out; omega) HB.out.size
   have l8 := en_f2 A0
   have HM2 := hide m2
   have HB2 := hide b2
   have Hlt := hide hlt
   clear A0 hlt hsk m2 b2
   go_wp2_with fail
   clear l8 hr2
   go_roundw
   case rel => exact ⟨k + 1, Hlt.out, by simp, by rw [HT.out]; exact HM2, HB2⟩
   case measure => simp [intOf]; have := Hlt.out; omega
  ·have hlti : ¬ (k : Int) < (n : Int) := by omega
   obtain rfl : k = n := by omega
   have hM := HM.out
   rw [List.take_of_length_le (by have := HL.out.1; omega)] at hM
   obtain ⟨m, hln, hm⟩ := hM.count HC.out 3
   have HMm := hide hm
   clear hM hm
   go_wp2_with fail
   go_ret
   exact ⟨m, rfl, HMm.out, HB.out⟩
theorem lnn_full {L O : List K.En} {ln : Int} {m : Nat} (h : K.LnN L m) (hO : O = []) : FullF L O ln ↔ ln ≤ (m : Int) := by
 obtain ⟨R, hR, rfl⟩ := h
 constructor
 ·rintro ⟨-, R', h', hl⟩
  rw [(hR.unique h').1]; exact hl
 ·exact fun hl => ⟨hO, R, hR, hl⟩
end Go.Proofs.YtmbkmpeongodbaaGreat

