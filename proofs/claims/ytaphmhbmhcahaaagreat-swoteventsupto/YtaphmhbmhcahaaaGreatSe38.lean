/- EJd -/
import Derived.Test.YtaphmhbmhcahaaaGreatSe37
import Derived.Test.YtaphmhbmhcahaaaGreatSe32
set_option maxRecDepth 100000
set_option maxHeartbeats 6400000
namespace Go.Proofs.YtaphmhbmhcahaaaGreat
open Go.RowKit
attribute [local go_sem ↓] ldP_eq stP_eq ldD_eq stD_eq K.ld28_eq K.st28_eq
attribute [local go_sem] cells_PV PC_size
def dsB (s : ByteArray) (r : Int) (e : K.En) : Bool := (decide (s.size = 0) || (e.sku.toList == s.toList)) && (decide (r < 0) || (e.rep == r))
theorem snocF {L : List K.En} {k : Nat} (h : k < L.length) (p : K.En -> Bool) : (L.take (k + 1)).filter p = (L.take k).filter p ++ (if p (L.getD k K.en0) = true then [L.getD k K.en0] else []) := by
 rw [K.take_snoc L k h, List.filter_append]
 congr 1
 cases hq : p (L.getD k K.en0)
 ·rw [List.filter_cons_of_neg (by rw [hq]; decide)]; rfl
 ·rw [List.filter_cons_of_pos (by rw [hq])]; rfl
theorem resP1 {w : World} {g : Nat} {fn : Func} {p : Tmp} {m : Pv} (h : fn.results = #[.cell p 26]) {tmps : Array Value} (hp : tmps.getD p undef = .pointer (some ⟨g, 0, none⟩)) (A : PBox w g m) :
  (results fn tmps).run Tryz.prog w = .ok (PV m) w := by
 have hl := run_lvP A.at
 simp only [results, h]
 rw [Array.getD_eq_getD_getElem?] at hp
 simp [hp, asAddr, hl]
theorem refDots8_any (ao : Option Addr) (n cap : Nat) (L : List K.En) (s : ByteArray) (r : Int) (w : World) (hS : K.ESrc w ao n cap L) : Calls Tryz.prog 58 #[.slice ao n cap, .string s, .int .i64 r] w fun x w' => GivesP w w' x (CanonOf (dotsG ((L.filter (dsB s r)).map dotOf))) := by
 have b1 := below_new w (.cells #[.slice none 0 0, .slice none 0 0] 26)
 have x1 : PBox (w.alloc (.cells #[.slice none 0 0, .slice none 0 0] 26)) w.heap.size pv0 := pbox_new w pv0
 obtain ⟨w2, hw1⟩ : ∃ w1, w.alloc (.cells #[.slice none 0 0, .slice none 0 0] 26) = w1 := ⟨_, rfl⟩
 obtain ⟨g1, hg1⟩ : ∃ g1, w.heap.size = g1 := ⟨_, rfl⟩
 rw [hw1] at b1 x1
 rw [hg1] at x1
 have HX2 : Hid (PBox w2 g1 pv0 /\ K.ESrc w2 ao n cap L /\ w.heap.size = g1) := ⟨x1, hS.below b1, hg1⟩
 have HB2 := hide b1
 have HL : Hid (L.length = n /\ n <= 3518437208883) := ⟨hS.1, hS.2.2.2.2⟩
 have hnb := HL.out.2
 clear b1 x1 hS
 go_enter Tryz.func58, Tryz.ntmps58
 go_wp2_with fail
 clear hw1 hg1
 go_loopw [7, 8] (fun v i wr => ∃ (k m : Nat) (ap : Option Addr) (c : Nat), k <= n /\ (((L.take k).filter (dsB s r)).map dotOf).length = m /\ v = .slice ap m c /\ i = .int .i64 (k : Int) /\ Hid (OwnD w2.heap.size w2.heap.size w2 wr ap c (((L.take k).filter (dsB s r)).map dotOf))) (fun _ i _ => n - (intOf i).toNat)
 case atStart => exact ⟨0, 0, none, 0, Nat.zero_le _, rfl, rfl, rfl, World.ownsRow_nil _ _ _ _, Below.refl _ _, Nat.le_refl _, Nat.le_refl _⟩
 case round =>
  obtain ⟨k, m, ap, c, hk, hm, rfl, rfl, HO⟩ := hrel
  rename World => wr
  obtain ⟨acc, Hacc⟩ : ∃ acc, Hid (((L.take k).filter (dsB s r)).map dotOf = acc) := ⟨_, rfl⟩
  have Hal : Hid (acc.length = m) := by show _ = _; rw [<- Hacc.out]; exact hm
  have hmk : m <= k := by
   rw [<- hm, List.length_map]
   have h1 := List.length_filter_le (dsB s r) (L.take k)
   have h2 := List.length_take_le k L
   omega
  clear hm
  rw [Hacc.out] at HO
  by_cases hlt : k < n
  ·have hlti : (k : Int) < (n : Int) := by omega
   obtain ⟨ad, hao, A0⟩ := (HX2.out.2.1.below HO.out.below).at k hlt
   subst hao
   obtain ⟨e, He⟩ : ∃ e, Hid (L.getD k K.en0 = e) := ⟨_, rfl⟩
   rw [He.out] at A0
   have HT := hide (snocF (k := k) (L := L) (by rw [HL.out.1]; exact hlt) (dsB s r))
   rw [He.out] at HT
   have l7 : (ldD (.pointer (some (ad.add (k * 4))))).run Tryz.prog wr = .ok (.agg #[.int .i64 e.rep, .int .i64 e.num]) wr := run_ldD (r := ⟨e.rep, e.num⟩) ⟨A0.c0, A0.c1⟩
   have l8 := en_f2 A0
   have l9 := A0.c0
   have Hlt : Hid (k < n /\ m <= k) := ⟨hlt, hmk⟩
   have HltA := Hlt
   clear A0 hlt hmk
   by_cases h0 : s.size = 0
   ·have e0 := K.empty_yes s h0
    by_cases hr : r < 0
    ·skip
     have hd : dsB s r e = true := by unfold dsB; simp [*]
     have HN : Hid (((L.take (k + 1)).filter (dsB s r)).map dotOf = acc ++ [dotOf e]) := by
      show _ = _
      rw [HT.out, hd, List.map_append, Hacc.out]
      simp
     have HNl : Hid ((((L.take (k + 1)).filter (dsB s r)).map dotOf).length = m + 1) := by
      show _ = _
      rw [HN.out]
      simp [Hal.out]
     clear hd
     go_wp2_with (at_builtin; go_loud (refine (HO.out.later (below_new wr _)).appendS [dotOf e] (some ⟨wr.heap.size, 0, none⟩) 1 1 (lit_rsrc wr [dotOf e] _ rfl 43 1 rfl (by omega)) (by have := Hal.out; have := Hlt.out; omega) rfl (.tmp 40) (.tmp 46) rfl m Hal.out rfl rfl ?_); intro ao8 c8 w8 O8; have HO8 := hide O8; clear O8)
     clear l7 l8
     go_roundw
     case rel => exact ⟨k + 1, m + 1, ao8, c8, Hlt.out.1, by rw [List.length_map] at *; exact HNl.out, rfl, by simp, by show OwnD _ _ _ _ _ _ _; rw [HN.out]; exact HO8.out⟩
     case measure => simp [intOf]; have := Hlt.out; omega
    ·cases hq : (e.rep == r) with
     | true =>
      have hd : dsB s r e = true := by unfold dsB; simp [*]
      have HN : Hid (((L.take (k + 1)).filter (dsB s r)).map dotOf = acc ++ [dotOf e]) := by
       show _ = _
       rw [HT.out, hd, List.map_append, Hacc.out]
       simp
      have HNl : Hid ((((L.take (k + 1)).filter (dsB s r)).map dotOf).length = m + 1) := by
       show _ = _
       rw [HN.out]
       simp [Hal.out]
      clear hd
      go_wp2_with (at_builtin; go_loud (refine (HO.out.later (below_new wr _)).appendS [dotOf e] (some ⟨wr.heap.size, 0, none⟩) 1 1 (lit_rsrc wr [dotOf e] _ rfl 43 1 rfl (by omega)) (by have := Hal.out; have := Hlt.out; omega) rfl (.tmp 40) (.tmp 46) rfl m Hal.out rfl rfl ?_); intro ao8 c8 w8 O8; have HO8 := hide O8; clear O8)
      clear l7 l8
      go_roundw
      case rel => exact ⟨k + 1, m + 1, ao8, c8, Hlt.out.1, by rw [List.length_map] at *; exact HNl.out, rfl, by simp, by show OwnD _ _ _ _ _ _ _; rw [HN.out]; exact HO8.out⟩
      case measure => simp [intOf]; have := Hlt.out; omega
     | false =>
      have hd : dsB s r e = false := by unfold dsB; simp [*]
      have HN : Hid (((L.take (k + 1)).filter (dsB s r)).map dotOf = acc) := by
       show _ = _
       rw [HT.out, hd, List.map_append, Hacc.out]
       simp
      have HNl : Hid ((((L.take (k + 1)).filter (dsB s r)).map dotOf).length = m) := by
       show _ = _
       rw [HN.out]
       simp [Hal.out]
      clear hd
      go_wp2_with fail
      clear l7 l8
      go_roundw
      case rel => exact ⟨k + 1, m, ap, c, Hlt.out.1, HNl.out, rfl, by simp, by show OwnD _ _ _ _ _ _ _; rw [HN.out]; exact HO.out⟩
      case measure => simp [intOf]; have := Hlt.out; omega
   ·have e0 := K.empty_no s h0
    cases hs : (e.sku.toList == s.toList) with
    | true =>
     by_cases hr : r < 0
     ·skip
      have hd : dsB s r e = true := by unfold dsB; simp [*]
      have HN : Hid (((L.take (k + 1)).filter (dsB s r)).map dotOf = acc ++ [dotOf e]) := by
       show _ = _
       rw [HT.out, hd, List.map_append, Hacc.out]
       simp
      have HNl : Hid ((((L.take (k + 1)).filter (dsB s r)).map dotOf).length = m + 1) := by
       show _ = _
       rw [HN.out]
       simp [Hal.out]
      clear hd
      go_wp2_with (at_builtin; go_loud (refine (HO.out.later (below_new wr _)).appendS [dotOf e] (some ⟨wr.heap.size, 0, none⟩) 1 1 (lit_rsrc wr [dotOf e] _ rfl 43 1 rfl (by omega)) (by have := Hal.out; have := Hlt.out; omega) rfl (.tmp 40) (.tmp 46) rfl m Hal.out rfl rfl ?_); intro ao8 c8 w8 O8; have HO8 := hide O8; clear O8)
      clear l7 l8
      go_roundw
      case rel => exact ⟨k + 1, m + 1, ao8, c8, Hlt.out.1, by rw [List.length_map] at *; exact HNl.out, rfl, by simp, by show OwnD _ _ _ _ _ _ _; rw [HN.out]; exact HO8.out⟩
      case measure => simp [intOf]; have := Hlt.out; omega
     ·cases hq : (e.rep == r) with
      | true =>
       have hd : dsB s r e = true := by unfold dsB; simp [*]
       have HN : Hid (((L.take (k + 1)).filter (dsB s r)).map dotOf = acc ++ [dotOf e]) := by
        show _ = _
        rw [HT.out, hd, List.map_append, Hacc.out]
        simp
       have HNl : Hid ((((L.take (k + 1)).filter (dsB s r)).map dotOf).length = m + 1) := by
        show _ = _
        rw [HN.out]
        simp [Hal.out]
       clear hd
       go_wp2_with (at_builtin; go_loud (refine (HO.out.later (below_new wr _)).appendS [dotOf e] (some ⟨wr.heap.size, 0, none⟩) 1 1 (lit_rsrc wr [dotOf e] _ rfl 43 1 rfl (by omega)) (by have := Hal.out; have := Hlt.out; omega) rfl (.tmp 40) (.tmp 46) rfl m Hal.out rfl rfl ?_); intro ao8 c8 w8 O8; have HO8 := hide O8; clear O8)
       clear l7 l8
       go_roundw
       case rel => exact ⟨k + 1, m + 1, ao8, c8, Hlt.out.1, by rw [List.length_map] at *; exact HNl.out, rfl, by simp, by show OwnD _ _ _ _ _ _ _; rw [HN.out]; exact HO8.out⟩
       case measure => simp [intOf]; have := Hlt.out; omega
      | false =>
       have hd : dsB s r e = false := by unfold dsB; simp [*]
       have HN : Hid (((L.take (k + 1)).filter (dsB s r)).map dotOf = acc) := by
        show _ = _
        rw [HT.out, hd, List.map_append, Hacc.out]
        simp
       have HNl : Hid ((((L.take (k + 1)).filter (dsB s r)).map dotOf).length = m) := by
        show _ = _
        rw [HN.out]
        simp [Hal.out]
       clear hd
       go_wp2_with fail
       clear l7 l8
       go_roundw
       case rel => exact ⟨k + 1, m, ap, c, Hlt.out.1, HNl.out, rfl, by simp, by show OwnD _ _ _ _ _ _ _; rw [HN.out]; exact HO.out⟩
       case measure => simp [intOf]; have := Hlt.out; omega
    | false =>
     have hd : dsB s r e = false := by unfold dsB; simp [*]
     have HN : Hid (((L.take (k + 1)).filter (dsB s r)).map dotOf = acc) := by
      show _ = _
      rw [HT.out, hd, List.map_append, Hacc.out]
      simp
     have HNl : Hid ((((L.take (k + 1)).filter (dsB s r)).map dotOf).length = m) := by
      show _ = _
      rw [HN.out]
      simp [Hal.out]
     clear hd
     go_wp2_with fail
     clear l7 l8
     go_roundw
     case rel => exact ⟨k + 1, m, ap, c, Hlt.out.1, HNl.out, rfl, by simp, by show OwnD _ _ _ _ _ _ _; rw [HN.out]; exact HO.out⟩
     case measure => simp [intOf]; have := Hlt.out; omega
  ·have hlti : ¬ (k : Int) < (n : Int) := by omega
   obtain rfl : k = n := by omega
   have HAc : Hid (acc = (L.filter (dsB s r)).map dotOf) := by show _ = _; rw [<- Hacc.out, List.take_of_length_le (by have := HL.out.1; omega)]
   obtain ⟨hsr, hnw⟩ := HO.out.src (by have := Hal.out; omega)
   have hsr2 : RSrc wr ap m c acc := by have := Hal.out; rw [this] at hsr; exact hsr
   have HC7 := hide (refOf_any ap m c acc wr hsr2 (by omega))
   have HBr := hide (HB2.out.trans (HO.out.below.mono HB2.out.size))
   have HXr := hide (HX2.out.1.below HO.out.below)
   have HG : Hid (w.heap.size = g1 /\ g1 < wr.heap.size) := ⟨HX2.out.2.2, HXr.out.lt⟩
   clear hsr hnw hsr2 hmk
   go_wp2_with fail
   refine HC7.out.mono ?_
   rintro x w8 ⟨p, rfl, S8, n8, b8, c8⟩
   have X8 := HXr.out.below b8
   have t8 := run_stP (p' := p) X8
   have HX8 : Hid (PBox (w8.setRow g1 (PC p)) g1 p) := setRow_heap _ _ _ _ _ _ X8
   have HE : Hid (PSrc (w8.setRow g1 (PC p)) p /\ PNew w.heap.size p /\ Below w.heap.size w (w8.setRow g1 (PC p)) /\ CanonOf (dotsG ((L.filter (dsB s r)).map dotOf)) p.P) :=
    ⟨psrc_off S8 (fun ad h => setRow_other _ _ _ _ (by have := n8.1 ad h; have := HG.out; omega)) (fun ad h => setRow_other _ _ _ _ (by have := n8.2 ad h; have := HG.out; omega)), n8.mono (by have := HG.out; omega), below_setRow (HBr.out.trans (b8.mono HBr.out.size)) (by have := HG.out; omega), by rw [<- HAc.out]; exact c8⟩
   clear S8 n8 b8 c8 X8 HC7
   go_wp2_with fail
   refine bodyPost_ret (resP1 rfl rfl HX8.out) rfl ?_
   exact ⟨p, rfl, HE.out⟩
def smB (s : ByteArray) (r : Int) (e : K.En) : Bool := (e.sku.toList == s.toList) && (decide (r < 0) || (e.rep == r))
end Go.Proofs.YtaphmhbmhcahaaaGreat
