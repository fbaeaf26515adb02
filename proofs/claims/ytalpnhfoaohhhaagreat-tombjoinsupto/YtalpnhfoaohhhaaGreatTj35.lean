/- LOnr LRu TRj BAe -/
import Derived.Test.YtalpnhfoaohhhaaGreatTj29
import Derived.Test.YtalpnhfoaohhhaaGreatTj30
import Derived.Test.YtalpnhfoaohhhaaGreatTj26
import Derived.Test.YtalpnhfoaohhhaaGreatTj09
import Derived.Maps.AppendAt
import Derived.Laws.AppendOwnNone
set_option maxRecDepth 100000
set_option maxHeartbeats 8000000
namespace Go.Proofs.YtalpnhfoaohhhaaGreat.K
section
open Go.RowKit
attribute [local go_sem ↓] ld28_eq st28_eq ld26_eq
attribute [local go_sem] zero_EC cells_EV EC_size fold_EC
attribute [local go_sem ↓] run_eq28 run_eqD
theorem once_any (ao : Option Addr) (n cap : Nat) (L : List En) (w : World) (hS : ESrc w ao n cap L) (hL : L.Pairwise (fun x y => leE x y = true)) :
  Calls Tryz.prog 60 #[.slice ao n cap] w fun x w' => GivesT w w' x L := by
 have HS := hide hS
 have hn := hS.2.2.2.2
 have HL : Hid (L.length = n) := hS.1
 have HP := hide hL
 clear hS hL
 go_enter Tryz.func60, Tryz.ntmps60
 go_wp2_with fail
 go_loopw [4, 5] (fun v i wr => ∃ (k : Nat) (ap : Option Addr) (c : Nat) (acc : List En), k <= n /\ acc.length <= k /\ v = .slice ap acc.length c /\ i = .int .i64 k /\ Hid (OnceInv L k acc /\ OwnE w.heap.size w.heap.size w wr ap c acc)) (fun _ i _ => n - (intOf i).toNat)
 case atStart => exact ⟨0, none, 0, [], Nat.zero_le _, Nat.le_refl _, rfl, rfl, once_start L, OwnE.nil (Below.refl _ _) (Nat.le_refl _) (Nat.le_refl _)⟩
 case round =>
  obtain ⟨k, ap, c, acc, hk, hal, rfl, rfl, H⟩ := hrel
  rename World => w4
  by_cases hlt : k < n
  ·obtain ⟨ad, rfl, A0⟩ := (HS.out.below H.out.2.below).at k hlt
   obtain ⟨e, He⟩ : ∃ e, Hid (L.getD k en0 = e) := ⟨_, rfl⟩
   rw [He.out] at A0
   have HA0 := hide A0
   clear A0
   have HAL := hide hal
   by_cases hk0 : k = 0
   ·have HN : Hid (OnceInv L (k + 1) (acc ++ [e])) := by have := once_new HP.out (by rw [HL.out]; exact hlt) H.out.1 (Or.inl hk0); rwa [He.out] at this
    subst hk0
    go_wp2_with fail
    refine wp_region_quiet_below (by kernel_rfl) (by kernel_rfl) ?_
    repeat (with_reducible (refine wpQuiet_step ?_); intro K hK; go_simp; (try rw [if_neg (by unfold undef; simp)]); first | (with_reducible (refine hK _ ?_); clear hK K) | (apply Exists.intro; refine ⟨fun _ => ?_, hK _ ?_⟩; (fail); clear hK K))
    with_reducible (refine wpQuiet_nil ?_)
    intro w5 hw'
    obtain ⟨⟨dq, osq⟩, hw''⟩ := hw'
    have b5 : Below w4.heap.size w4 w5 := by rw [hw'']; exact below_regrown w4 dq osq
    clear hw'' dq osq
    have O5 := hide (H.out.2.later b5)
    have l5 := run_ld28 (HA0.out.on b5)
    rw [Nat.zero_mul, add_zero] at l5
    clear b5
    go_wp2_with (at_builtin; refine O5.out.append e _ rfl (by omega) rfl (.tmp 28) (.tmp 33) rfl acc.length rfl rfl rfl ?_; intro g6 c6 w6 O6 hk6)
    go_roundw
    case rel => exact ⟨0 + 1, some ⟨g6, 0, none⟩, c6, acc ++ [e], by omega, by have := HAL.out; rw [List.length_append, List.length_singleton]; omega, by simp, by go_num, HN.out, O6⟩
    case measure => simp [intOf]; omega
   ·obtain ⟨j, hj⟩ : ∃ j, k - 1 = j := ⟨_, rfl⟩
    have hz : IntKind.i64.wrap ((k : Int) - 1) = (j : Int) := by rw [IntKind.wrap_i64]; omega
    have hjn : j < n := by omega
    have A1 := (HS.out.below H.out.2.below).2.2.1 ad rfl j (by omega)
    obtain ⟨e1, He1⟩ : ∃ e1, Hid (L.getD j en0 = e1) := ⟨_, rfl⟩
    rw [He1.out] at A1
    have HA1 := hide A1
    clear A1
    have hk1 : ((k : Int) == 0) = false := by simp; omega
    have Hj := hide hj
    have HK0 := hide hk0
    have l0 : ∀ d os, (ld26 (.pointer (some (ad.add (k * 4))))).run Tryz.prog (Sort.grow (redrawn w4 d) os) = .ok (.agg (DC e)) (Sort.grow (redrawn w4 d) os) := fun d os => run_ld26 (HA0.out.on (below_regrown w4 d os))
    have l1 : ∀ d os, (ld26 (.pointer (some (ad.add (j * 4))))).run Tryz.prog (Sort.grow (redrawn w4 d) os) = .ok (.agg (DC e1)) (Sort.grow (redrawn w4 d) os) := fun d os => run_ld26 (HA1.out.on (below_regrown w4 d os))
    clear hj hk0
    obtain ⟨s, hs⟩ : ∃ s, sameDot e e1 = s := ⟨_, rfl⟩
    cases s with
    | false =>
     have HN : Hid (OnceInv L (k + 1) (acc ++ [e])) := by have := once_new HP.out (by rw [HL.out]; exact hlt) H.out.1 (Or.inr (by rw [Hj.out, He.out, He1.out]; exact hs)); rwa [He.out] at this
     go_wp2_with fail
     refine wp_region_quiet_below (by kernel_rfl) (by kernel_rfl) ?_
     repeat (with_reducible (refine wpQuiet_step ?_); intro K hK; go_simp; (try rw [if_neg (by unfold undef; simp)]); first | (with_reducible (refine hK _ ?_); clear hK K) | (apply Exists.intro; refine ⟨fun _ => ?_, hK _ ?_⟩; (fail); clear hK K))
     with_reducible (refine wpQuiet_nil ?_)
     intro w5 hw'
     obtain ⟨⟨dq, osq⟩, hw''⟩ := hw'
     have b5 : Below w4.heap.size w4 w5 := by rw [hw'']; exact below_regrown w4 dq osq
     clear hw'' dq osq
     have O5 := hide (H.out.2.later b5)
     have l5 := run_ld28 (HA0.out.on b5)
     clear b5 l0 l1
     go_wp2_with (at_builtin; refine O5.out.append e _ rfl (by omega) rfl (.tmp 28) (.tmp 33) rfl acc.length rfl rfl rfl ?_; intro g6 c6 w6 O6 hk6)
     go_roundw
     case rel => exact ⟨k + 1, some ⟨g6, 0, none⟩, c6, acc ++ [e], by omega, by have := HAL.out; rw [List.length_append, List.length_singleton]; omega, by simp, by go_num, HN.out, O6⟩
     case measure => simp [intOf]; omega
    | true =>
     have HSD := hide hs
     obtain ⟨q, hq⟩ : ∃ q, eqE e e1 = q := ⟨_, rfl⟩
     go_wp2_with fail
     refine wp_region_quiet_below (by kernel_rfl) (by kernel_rfl) ?_
     repeat (with_reducible (refine wpQuiet_step ?_); intro K hK; go_simp; (try rw [if_neg (by unfold undef; simp)]); first | (with_reducible (refine hK _ ?_); clear hK K) | (apply Exists.intro; refine ⟨fun _ => ?_, hK _ ?_⟩; (fail); clear hK K))
     with_reducible (refine wpQuiet_nil ?_)
     intro w5 hw'
     obtain ⟨⟨dq, osq⟩, hw''⟩ := hw'
     have b5 : Below w4.heap.size w4 w5 := by rw [hw'']; exact below_regrown w4 dq osq
     clear hw'' dq osq
     have O5 := hide (H.out.2.later b5)
     have HB5 := hide b5
     clear b5 l0 l1 hs
     have l0 : ∀ d os, (ld28 (.pointer (some (ad.add (k * 4))))).run Tryz.prog (Sort.grow (redrawn w5 d) os) = .ok (EV e) (Sort.grow (redrawn w5 d) os) := fun d os => run_ld28 ((HA0.out.on HB5.out).on (below_regrown w5 d os))
     have l1 : ∀ d os, (ld28 (.pointer (some (ad.add (j * 4))))).run Tryz.prog (Sort.grow (redrawn w5 d) os) = .ok (EV e1) (Sort.grow (redrawn w5 d) os) := fun d os => run_ld28 ((HA1.out.on HB5.out).on (below_regrown w5 d os))
     cases q with
     | true =>
      have HN : Hid (OnceInv L (k + 1) acc) := once_skip (by rw [HL.out]; exact hlt) (by have := HK0.out; omega) H.out.1 (by rw [Hj.out, He.out, He1.out]; exact (eqE_iff e e1).1 hq)
      go_wp2_with fail
      refine wp_region_quiet_below (by kernel_rfl) (by kernel_rfl) ?_
      repeat (with_reducible (refine wpQuiet_step ?_); intro K hK; go_simp; (try rw [if_neg (by unfold undef; simp)]); first | (with_reducible (refine hK _ ?_); clear hK K) | (apply Exists.intro; refine ⟨fun _ => ?_, hK _ ?_⟩; (fail); clear hK K))
      with_reducible (refine wpQuiet_nil ?_)
      intro w6 hw'
      obtain ⟨⟨dq, osq⟩, hw''⟩ := hw'
      have b6 : Below w5.heap.size w5 w6 := by rw [hw'']; exact below_regrown w5 dq osq
      clear hw'' dq osq
      have O6 := hide (O5.out.later b6)
      clear b6 l0 l1
      go_wp2_with fail
      go_roundw
      case rel => exact ⟨k + 1, ap, c, acc, by omega, by omega, rfl, by go_num, HN.out, O6.out⟩
      case measure => simp [intOf]; omega
     | false =>
      have HN : Hid (Settled L [] 10) := Or.inl ⟨once_clash (k := k) (by rw [HL.out]; exact hlt) (by rw [Hj.out, He.out, He1.out]; exact HSD.out) (by rw [Hj.out, He.out, He1.out]; intro h; rw [(eqE_iff e e1).2 h] at hq; cases hq), rfl, rfl⟩
      go_wp2_with fail
      refine wp_region_quiet_below (by kernel_rfl) (by kernel_rfl) ?_
      repeat (with_reducible (refine wpQuiet_step ?_); intro K hK; go_simp; (try rw [if_neg (by unfold undef; simp)]); first | (with_reducible (refine hK _ ?_); clear hK K) | (apply Exists.intro; refine ⟨fun _ => ?_, hK _ ?_⟩; (fail); clear hK K))
      with_reducible (refine wpQuiet_nil ?_)
      intro w6 hw'
      obtain ⟨⟨dq, osq⟩, hw''⟩ := hw'
      have b6 : Below w5.heap.size w5 w6 := by rw [hw'']; exact below_regrown w5 dq osq
      clear hw'' dq osq
      have O6 := hide (O5.out.later b6)
      clear b6 l0 l1
      go_wp2_with fail
      go_ret2
      exact ⟨none, 0, 0, [], 10, rfl, ESrc.none _, O6.out.below, fun ad h => (by cases h), HN.out⟩
  ·obtain rfl : k = n := by omega
   have HN : Hid (Settled L acc 0) := once_done (by rw [HL.out]; exact H.out.1)
   have hs : ∀ e ∈ acc, e.sku.size <= maxLen := by
    intro e he; exact HS.out.2.2.2.1 e (List.mem_of_mem_take ((H.out.1.2 e).1 he))
   obtain ⟨S1, F1⟩ := H.out.2.src hs (by omega)
   have HS1 := hide S1
   have HF1 := hide F1
   clear S1 F1 hs
   go_wp2_with fail
   go_ret2
   exact ⟨_, _, _, acc, 0, rfl, HS1.out, H.out.2.below, HF1.out, HN.out⟩
end
section
open Go.RowKit Go.Lib
theorem unionBadR {w w' : World} {A B : List En} (h : ¬ (chk A = 0 /\ chk B = 0)) (hb : Below w.heap.size w w') : GivesU w w' (.returned (.tuple #[.slice none 0 0, .int .i64 1])) A B :=
 ⟨none, 0, 0, [], 1, rfl, ESrc.none _, hb, Or.inl ⟨h, rfl, rfl⟩⟩
attribute [local go_sem ↓] ld28_eq st28_eq
attribute [local go_sem] zero_EC cells_EV EC_size fold_EC
theorem refUnion_any (ao bo : Option Addr) (n cap m cap' : Nat) (A B : List En) (w : World) (hS : ESrc w ao n cap A) (hR : ESrc w bo m cap' B) :
  Calls Tryz.prog 32 #[.slice ao n cap, .slice bo m cap'] w fun e w' => GivesU w w' e A B := by
 have HS := hide hS
 have HR := hide hR
 clear hS hR
 obtain ⟨p, Hp⟩ : ∃ p, Hid (chk A = p) := ⟨_, rfl⟩
 obtain ⟨q, Hq⟩ : ∃ q, Hid (chk B = q) := ⟨_, rfl⟩
 by_cases h1 : p = 0
 ·by_cases h2 : q = 0
  ·have HA : Hid (chk A = 0 /\ chk B = 0) := ⟨Hp.out.trans h1, Hq.out.trans h2⟩
   have d1 : (p != 0) = false := by simpa using h1
   have d2 : (q != 0) = false := by simpa using h2
   have HLA : Hid (A.length = n) := HS.out.1
   have HLB : Hid (B.length = m) := HR.out.1
   have hlen : n + m <= 3518437208883 := by
    have l1 := chk_len HA.out.1
    have l2 := chk_len HA.out.2
    rw [HS.out.1] at l1
    rw [HR.out.1] at l2
    omega
   clear h1 h2
   go_enter Tryz.func32, Tryz.ntmps32
   go_wp2_with fail
   refine (refCheckL_any ao n cap A _ HS.out).mono ?_
   rintro e w1 ⟨rfl, b1⟩
   rw [Hp.out]
   have HB1 := hide b1
   clear b1
   go_wp2_with fail
   refine (refCheckL_any bo m cap' B _ (HR.out.below HB1.out)).mono ?_
   rintro e w2 ⟨rfl, b2⟩
   rw [Hq.out]
   have HB2 := hide (HB1.out.trans (b2.mono HB1.out.size))
   clear b2 HB1
   go_wp2_with fail
   go_loopw [6, 7] (fun v i wr => ∃ (k : Nat) (ap : Option Addr) (c : Nat), k <= n /\ v = .slice ap (A.take k).length c /\ i = .int .i64 k /\ Hid (OwnE w.heap.size w2.heap.size w wr ap c (A.take k))) (fun _ i _ => n - (intOf i).toNat)
   case atStart => exact ⟨0, none, 0, Nat.zero_le _, rfl, rfl, OwnE.nil HB2.out (Nat.le_refl _) HB2.out.size⟩
   case round =>
    obtain ⟨k, ap, c, hk, rfl, rfl, HO⟩ := hrel
    obtain ⟨acc, Hacc⟩ : ∃ acc, Hid (A.take k = acc) := ⟨_, rfl⟩
    have hal : acc.length = k := by rw [<- Hacc.out, List.length_take, HLA.out]; omega
    rw [Hacc.out] at HO ⊢
    by_cases hlt : k < n
    ·obtain ⟨ad, rfl, A0⟩ := (HS.out.below HO.out.below).at k hlt
     have hld := run_ld28 A0
     obtain ⟨e, He⟩ : ∃ e, Hid (A.getD k en0 = e) := ⟨_, rfl⟩
     rw [He.out] at hld A0
     have HT := hide (take_snoc A k (by rw [HLA.out]; exact hlt))
     rw [He.out, Hacc.out] at HT
     clear A0
     go_wp2_with (at_builtin; refine HO.out.append e _ rfl (by omega) rfl (.tmp 23) (.tmp 28) rfl acc.length rfl rfl rfl ?_; intro g4 c4 w4 O4 hk4)
     go_roundw
     case rel => exact ⟨k + 1, some ⟨g4, 0, none⟩, c4, by omega, by rw [HT.out]; simp [hal], by go_num, by rw [HT.out]; exact O4⟩
     case measure => simp [intOf]; omega
    ·obtain rfl : k = n := by omega
     obtain rfl : A = acc := by rw [<- Hacc.out, List.take_of_length_le (by rw [HLA.out]; exact Nat.le_refl _)]
     clear Hacc hal
     go_wp2_with fail
     go_loopw [6, 8] (fun v i wr => ∃ (j : Nat) (ap : Option Addr) (c : Nat), j <= m /\ v = .slice ap (A ++ B.take j).length c /\ i = .int .i64 j /\ Hid (OwnE w.heap.size w2.heap.size w wr ap c (A ++ B.take j))) (fun _ i _ => m - (intOf i).toNat)
     case atStart => exact ⟨0, ap, c, Nat.zero_le _, by simp, rfl, by simpa using HO⟩
     case round =>
      clear HO
      obtain ⟨j, ap, c, hj, rfl, rfl, HO⟩ := hrel
      obtain ⟨acc, Hacc⟩ : ∃ acc, Hid (A ++ B.take j = acc) := ⟨_, rfl⟩
      have hal : acc.length = k + j := by rw [<- Hacc.out, List.length_append, List.length_take, HLA.out, HLB.out]; omega
      rw [Hacc.out] at HO ⊢
      by_cases hlt : j < m
      ·obtain ⟨bd, rfl, A0⟩ := (HR.out.below HO.out.below).at j hlt
       have hld := run_ld28 A0
       obtain ⟨e, He⟩ : ∃ e, Hid (B.getD j en0 = e) := ⟨_, rfl⟩
       rw [He.out] at hld A0
       have HT : Hid (A ++ B.take (j + 1) = acc ++ [e]) := by show _ = _; rw [take_snoc B j (by rw [HLB.out]; exact hlt), <- List.append_assoc, Hacc.out, He.out]
       clear A0
       go_wp2_with (at_builtin; refine HO.out.append e _ rfl (by omega) rfl (.tmp 36) (.tmp 41) rfl acc.length rfl rfl rfl ?_; intro g4 c4 w4 O4 hk4)
       go_roundw
       case rel => exact ⟨j + 1, some ⟨g4, 0, none⟩, c4, by omega, by rw [HT.out]; simp [hal], by go_num, by rw [HT.out]; exact O4⟩
       case measure => simp [intOf]; omega
      ·obtain rfl : j = m := by omega
       have HE : Hid (A ++ B = acc) := by show _ = _; rw [<- Hacc.out, List.take_of_length_le (by rw [HLB.out]; exact Nat.le_refl _)]
       have hsk : ∀ e ∈ acc, e.sku.size <= maxLen := fun e he => by
        rw [<- HE.out] at he
        rcases List.mem_append.1 he with h | h
        ·exact HS.out.2.2.2.1 e h
        ·exact HR.out.2.2.2.1 e h
       obtain ⟨S4, F4⟩ := HO.out.src hsk (by omega)
       have HS4 := hide S4
       have HB4 := hide HO.out.below
       clear S4 F4 hsk HO
       go_wp2_with fail
       rw [<- hal]
       refine (sorted_any ap acc.length c acc _ HS4.out).mono ?_
       rintro e w5 ⟨R, ⟨hp, ho⟩, a5, n5, c5, rfl, S5, b5, _⟩
       have HS5 := hide S5
       have HOR := hide ho
       have HPM : Hid (∀ x, x ∈ R ↔ x ∈ A ++ B) := fun x => by rw [HE.out]; exact hp.mem_iff
       have HB5 := hide (HB4.out.trans (b5.mono HB4.out.size))
       clear S5 ho hp b5
       go_wp2_with fail
       refine (once_any a5 n5 c5 R _ HS5.out HOR.out).mono ?_
       rintro e w6 ⟨a6, n6, c6, R6, er, rfl, S6, b6, f6, t6⟩
       have HN : Hid (GivesU w w6 (.returned (.tuple #[.slice a6 n6 c6, .int .i64 er])) A B) :=
        ⟨a6, n6, c6, R6, er, rfl, S6, HB5.out.trans (b6.mono HB5.out.size), Or.inr ⟨HA.out, t6.perm HPM.out⟩⟩
       clear S6 b6 f6 t6
       go_wp2_with fail
       go_ret2
       exact HN.out
  ·have HX : Hid (¬ (chk A = 0 /\ chk B = 0)) := fun h => h2 (Hq.out.symm.trans h.2)
   have d1 : (p != 0) = false := by simpa using h1
   have d2 : (q != 0) = true := by simpa using h2
   clear h1 h2
   go_enter Tryz.func32, Tryz.ntmps32
   go_wp2_with fail
   refine (refCheckL_any ao n cap A _ HS.out).mono ?_
   rintro e w1 ⟨rfl, b1⟩
   rw [Hp.out]
   have HB1 := hide b1
   clear b1
   go_wp2_with fail
   refine (refCheckL_any bo m cap' B _ (HR.out.below HB1.out)).mono ?_
   rintro e w2 ⟨rfl, b2⟩
   rw [Hq.out]
   have HB2 := hide (HB1.out.trans (b2.mono HB1.out.size))
   clear b2
   go_wp2_with fail
   go_ret2
   exact unionBadR HX.out HB2.out
 ·have HX : Hid (¬ (chk A = 0 /\ chk B = 0)) := fun h => h1 (Hp.out.symm.trans h.1)
  have d1 : (p != 0) = true := by simpa using h1
  clear h1
  go_enter Tryz.func32, Tryz.ntmps32
  go_wp2_with fail
  refine (refCheckL_any ao n cap A _ HS.out).mono ?_
  rintro e w1 ⟨rfl, b1⟩
  rw [Hp.out]
  have HB1 := hide b1
  clear b1
  go_wp2_with fail
  go_ret2
  exact unionBadR HX.out HB1.out
end
end Go.Proofs.YtalpnhfoaohhhaaGreat.K
namespace Go.Proofs.YtalpnhfoaohhhaaGreat
open Go.RowKit
theorem FaBox.ne {W : World} {g : Nat} {m : FacV} (A : FaBox W g m) {a : Addr} {v : Value} (hc : W.cell? a = some v) (hv : ∀ o n c, v ≠ .slice o n c) : a.block ≠ g := by
 rintro rfl
 obtain ⟨b, o, k⟩ := a
 unfold FaBox at A
 have h := World.cell?_spot hc
 obtain rfl : k = none := h
 simp only [World.cell?, A] at hc
 rcases o with _ | _ | _ | _ | o <;> simp [FaC] at hc
 all_goals exact absurd hc.symm (hv _ _ _)
theorem cell_off {W : World} {g : Nat} {a : Addr} (c : Array Value) (h : a.block ≠ g) : (W.setRow g c).cell? a = W.cell? a := by
 unfold World.cell?; rw [setRow_other _ _ _ _ h]
theorem esrc_offF {W : World} {g : Nat} {m : FacV} {ao : Option Addr} {n cap : Nat} {L : List K.En} (A : FaBox W g m) (h : K.ESrc W ao n cap L) (c : Array Value) : K.ESrc (W.setRow g c) ao n cap L := by
 refine ⟨h.1, h.2.1, fun ad e t ht => ?_, h.2.2.2⟩
 have B := h.2.2.1 ad e t ht
 have hb : (ad.add (t * 4)).block ≠ g := A.ne B.c0 (fun _ _ _ h => by cases h)
 exact ⟨by rw [cell_off c hb]; exact B.c0, by rw [cell_off c (by rw [block_add]; exact hb)]; exact B.c1, by rw [cell_off c (by rw [block_add]; exact hb)]; exact B.c2, by rw [cell_off c (by rw [block_add]; exact hb)]; exact B.c3⟩
theorem psrc_offF {W : World} {g : Nat} {m : FacV} {p : Pv} (A : FaBox W g m) (h : PSrc W p) (c : Array Value) : PSrc (W.setRow g c) p := by
 refine ⟨⟨h.vec.1, h.vec.2.1, fun ad e t ht => ?_⟩, ⟨h.cloud.len, h.cloud.nil, fun ad e t ht => ?_, h.cloud.big, h.cloud.cap⟩, h.big⟩
 ·have B := h.vec.2.2 ad e t ht
  rw [cell_off c (A.ne B (fun _ _ _ h => by cases h))]; exact B
 ·have B := h.cloud.cell ad e t ht
  have hb := A.ne B.c0 (fun _ _ _ h => by cases h)
  exact ⟨by rw [cell_off c hb]; exact B.c0, by rw [cell_off c (by rw [block_add]; exact hb)]; exact B.c1, by rw [cell_off c (by rw [block_add]; exact hb)]; exact B.c2⟩
theorem rcs_offF {W : World} {g : Nat} {m : FacV} {ao : Option Addr} {n cap : Nat} {L : List Rc} (A : FaBox W g m) (h : RcS W ao n cap L) (c : Array Value) : RcS (W.setRow g c) ao n cap L := by
 refine ⟨h.len, h.nil, fun ad ha t ht => ?_, fun r hr => ⟨psrc_offF A (h.ok r hr).1 c, (h.ok r hr).2⟩, h.big⟩
 have B := h.at_ ad ha t ht
 have hb := A.ne B.c0 (fun _ _ _ h => by cases h)
 exact ⟨by rw [cell_off c hb]; exact B.c0, by rw [cell_off c (by rw [block_add]; exact hb)]; exact B.c1, by rw [cell_off c (by rw [block_add]; exact hb)]; exact B.c2⟩
theorem FcOk.offF {W : World} {g : Nat} {m : FacV} {f : Fc} (h : FcOk W f) (A : FaBox W g m) (c : Array Value) : FcOk (W.setRow g c) f := ⟨esrc_offF A h.es c, psrc_offF A h.p c, rcs_offF A h.rs c⟩
def FcE (w w' : World) (e : Ending) (D : Fc -> Int -> Prop) : Prop := ∃ f er, e = .returned (.tuple #[FaV (mkF f), .int .i64 er]) /\ FcOk w' f /\ FcR f /\ Below w.heap.size w w' /\ D f er
theorem give_fe {w W : World} {g : Nat} {m0 : FacV} {f : Fc} {er : Int} (D : Fc -> Int -> Prop) (hX : FaBox W g m0) (hF : FcOk W f) (hr : FcR f) (hb : Below w.heap.size w W) (hg : w.heap.size <= g) (hD : D f er) :
  FaBox (W.setRow g (FaC (mkF f))) g (mkF f) /\ FcE w (W.setRow g (FaC (mkF f))) (.returned (.tuple #[FaV (mkF f), .int .i64 er])) D :=
 ⟨hX.setRow, f, er, rfl, hF.offF hX _, hr, below_setRow hb hg, hD⟩
attribute [local go_sem ↓] ldP_eq stP_eq ldFa_eq stFa_eq bldF_eq bsPs_eq
attribute [local go_sem] cells_PV PC_size cells_FaV FaC_size zero_FaZ run_bldF0 run_bldF12 run_bsPs
theorem refJoinF_any (f g : Fc) (w : World) (hF : FcOk w f) (hG : FcOk w g) (hf : FcR f) (hg : FcR g) (hnm : f.rn + g.rn <= 2199023255551) :
  Calls Tryz.prog 12 #[FaV (mkF f), FaV (mkF g)] w fun e w' => FcE w w' e (JnOf 10 f g) := by
 obtain ⟨w2, hw2, HX2, HY2, HB2⟩ := box2F w f g
 have b3 := below_new w2 (.cells (FaC (mkF fz0)) 29)
 have X3 := FaBox_new w2 (mkF fz0)
 have hs2 : w2.heap.size = w.heap.size + 2 := by rw [<- hw2]; simp
 obtain ⟨wk, hwk⟩ : ∃ wk, w2.alloc (.cells (FaC (mkF fz0)) 29) = wk := ⟨_, rfl⟩
 rw [hwk] at b3 X3
 rw [hs2] at X3
 obtain ⟨G, hG0⟩ : ∃ G, w.heap.size = G := ⟨_, rfl⟩
 rw [hG0] at X3 HX2 HY2
 have HX := hide (HX2.out.below b3)
 have HY := hide (HY2.out.below b3)
 have HZ := hide X3
 have HBK := hide (HB2.out.trans (b3.mono HB2.out.size))
 have HF := hide (hF.below HBK.out)
 have HG := hide (hG.below HBK.out)
 have HR : Hid (FcR f /\ FcR g /\ f.rn + g.rn <= 2199023255551) := ⟨hf, hg, hnm⟩
 have HGs : Hid (w.heap.size = G) := hG0
 clear hF hG hf hg hnm b3 X3 HX2 HY2 HB2
 have lf := run_ldFa HX.out
 have lg := run_ldFa HY.out
 go_enter Tryz.func12, Tryz.ntmps12
 go_wp2_with fail
 clear hw2 hwk hs2 hG0
 refine (refCheckF_any f _ HF.out).mono ?_
 rintro e w1 ⟨x, rfl, hx, b1⟩
 have HB1 := hide (HBK.out.trans (b1.mono HBK.out.size))
 have HX1 := hide (HX.out.below b1)
 have HY1 := hide (HY.out.below b1)
 have HZ1 := hide (HZ.out.below b1)
 have HF1 := hide (HF.out.below b1)
 have HG1 := hide (HG.out.below b1)
 clear b1 lf lg
 rcases hx with ⟨rfl, h1⟩ | ⟨rfl, h1⟩
 rotate_left
 ·have st0 := run_stFa (m' := mkF fz0) HZ1.out
  have HE := hide (give_fe (w := w) (f := fz0) (er := 1) (JnOf 10 f g) HZ1.out (fz0_ok _) fz0_row HB1.out (by rw [HGs.out]; omega) (.inl ⟨fun h => h1 h.1, rfl, rfl⟩))
  clear h1
  go_wp2_with fail
  clear st0
  refine bodyPost_ret (res2Fb rfl rfl rfl HE.out.1) rfl ?_
  exact HE.out.2
 have HF0 := hide h1
 clear h1
 have lg := run_ldFa HY1.out
 go_wp2_with fail
 clear lg
 refine (refCheckF_any g _ HG1.out).mono ?_
 rintro e w3 ⟨x, rfl, hx, b3⟩
 have HB3 := hide (HB1.out.trans (b3.mono HB1.out.size))
 have HX3 := hide (HX1.out.below b3)
 have HY3 := hide (HY1.out.below b3)
 have HZ3 := hide (HZ1.out.below b3)
 have HF3 := hide (HF1.out.below b3)
 have HG3 := hide (HG1.out.below b3)
 clear b3
 rcases hx with ⟨rfl, h1⟩ | ⟨rfl, h1⟩
 rotate_left
 ·have st0 := run_stFa (m' := mkF fz0) HZ3.out
  have HE := hide (give_fe (w := w) (f := fz0) (er := 1) (JnOf 10 f g) HZ3.out (fz0_ok _) fz0_row HB3.out (by rw [HGs.out]; omega) (.inl ⟨fun h => h1 h.2, rfl, rfl⟩))
  clear h1
  go_wp2_with fail
  clear st0
  refine bodyPost_ret (res2Fb rfl rfl rfl HE.out.1) rfl ?_
  exact HE.out.2
 have HFo : Hid (FormF f /\ FormF g) := ⟨HF0.out, h1⟩
 clear h1
 obtain ⟨c0, c3⟩ := HX3.out.cs
 obtain ⟨d0, d3⟩ := HY3.out.cs

 go_wp2_with fail
 clear c0 c3 d0 d3
 refine (K.refUnion_any f.ao g.ao f.an f.ac g.an g.ac f.es g.es _ HF3.out.es HG3.out.es).mono ?_
 rintro e w4 ⟨ao, n, c, R, er, rfl, S4, b4, u4⟩
 have HB4 := hide (HB3.out.trans (b4.mono HB3.out.size))
 have HX4 := hide (HX3.out.below b4)
 have HY4 := hide (HY3.out.below b4)
 have HZ4 := hide (HZ3.out.below b4)
 have HF4 := hide (HF3.out.below b4)
 have HG4 := hide (HG3.out.below b4)
 have HS4 := hide S4
 have HU4 := hide u4
 clear b4 S4 u4
 by_cases h0 : er = 0
 rotate_left
 ·have hne : (er != 0) = true := by simp [h0]
  have st0 := run_stFa (m' := mkF fz0) HZ4.out
  have HE := hide (give_fe (w := w) (f := fz0) (er := 10) (JnOf 10 f g) HZ4.out (fz0_ok _) fz0_row HB4.out (by rw [HGs.out]; omega) (.inr ⟨HFo.out.1, HFo.out.2, R, er, HU4.out, .inl ⟨h0, by rw [if_neg (by decide)], rfl⟩⟩))
  clear h0
  go_wp2_with fail
  clear st0
  refine bodyPost_ret (res2Fb rfl rfl rfl HE.out.1) rfl ?_
  exact HE.out.2
 subst h0
 obtain ⟨-, c3⟩ := HX4.out.cs
 obtain ⟨-, d3⟩ := HY4.out.cs
 go_wp2_with fail
 clear c3 d3
 refine (refUnionR_any f.ro g.ro f.rn f.rc g.rn g.rc f.rs g.rs _ (HF4.out.row HR.out.1) (HG4.out.row HR.out.2.1) HR.out.2.2).mono ?_
 rintro e w5 (⟨-, -, h5, F5, rfl, T5, -, m5, b5, U5⟩ | ⟨hno, -⟩)
 rotate_left
 ·exact absurd ⟨HFo.out.1.2.2, HFo.out.2.2.2⟩ hno
 have HB5 := hide (HB4.out.trans (b5.mono HB4.out.size))
 have HX5 := hide (HX4.out.below b5)
 have HY5 := hide (HY4.out.below b5)
 have HZ5 := hide (HZ4.out.below b5)
 have HF5 := hide (HF4.out.below b5)
 have HG5 := hide (HG4.out.below b5)
 have HS5 := hide (HS4.out.below b5)
 have HR5 : Hid (RcT w5 h5.o h5.n h5.c F5) := T5
 have HU5 : Hid (UnOf f.rs g.rs F5 /\ h5.n <= f.rn + g.rn) := ⟨U5, m5⟩
 clear b5 T5 U5 m5
 obtain ⟨ho5, hn5, hc5⟩ := h5
 rw [show HsV ⟨ho5, hn5, hc5⟩ = Value.slice ho5 hn5 hc5 from rfl]
 have lp := run_ldP HX5.out.past
 have lq := run_ldP HY5.out.past
 have hPR := prow2 w5 f.p g.p HF5.out.p HG5.out.p
 have b6 := below_new w5 (.cells #[.slice f.p.vo f.p.vn f.p.vc, .slice f.p.co f.p.cn f.p.cc, .slice g.p.vo g.p.vn g.p.vc, .slice g.p.co g.p.cn g.p.cc] 26)
 have lb := run_bsPs f.p g.p w5
 obtain ⟨g6, hg6⟩ : ∃ g6, w5.heap.size = g6 := ⟨_, rfl⟩
 obtain ⟨w6, hw6⟩ : ∃ w6, w5.alloc (.cells #[.slice f.p.vo f.p.vn f.p.vc, .slice f.p.co f.p.cn f.p.cc, .slice g.p.vo g.p.vn g.p.vc, .slice g.p.co g.p.cn g.p.cc] 26) = w6 := ⟨_, rfl⟩
 rw [hw6] at hPR b6 lb
 rw [hg6] at hPR lb
 have HPR := hide hPR
 have HB6 := hide (HB5.out.trans (b6.mono HB5.out.size))
 have HZ6 := hide (HZ5.out.below b6)
 have HS6 := hide (HS5.out.below b6)
 have HR6 : Hid (RcT w6 ho5 hn5 hc5 F5) := HR5.out.below b6
 clear hPR b6 hg6 hw6
 go_wp2_with fail
 clear lp lq lb
 refine (refJoin_any (some ⟨g6, 0, none⟩) 2 2 [f.p, g.p] _ HPR.out (bsP2_wt HFo.out.1.2.1 HFo.out.2.2.1) (by decide)).mono ?_
 rintro e w7 ⟨q, rfl, S7, N7, b7, C7⟩
 have HFc : Hid (FcOk w7 ⟨ao, n, c, R, q, ho5, hn5, hc5, F5⟩) := ⟨HS6.out.below b7, S7, (HR6.out.below b7).src⟩
 have HZ7 := hide (HZ6.out.below b7)
 have HB7 := hide (HB6.out.trans (b7.mono HB6.out.size))
 have stz := run_stFa (m' := mkF ⟨ao, n, c, R, q, ho5, hn5, hc5, F5⟩) HZ7.out
 have HE := hide (give_fe (w := w) (f := ⟨ao, n, c, R, q, ho5, hn5, hc5, F5⟩) (er := 0) (JnOf 10 f g) HZ7.out HFc.out ⟨HR6.out.room, HR6.out.nil⟩ HB7.out (by rw [HGs.out]; omega) (.inr ⟨HFo.out.1, HFo.out.2, R, 0, HU4.out, .inr ⟨rfl, rfl, rfl, C7, HU5.out⟩⟩))
 clear S7 N7 b7 C7
 replace stz : (stFa (.pointer (some ⟨G + 2, 0, none⟩)) (.agg #[.slice ao n c, .slice q.vo q.vn q.vc, .slice q.co q.cn q.cc, .slice ho5 hn5 hc5])).run Tryz.prog w7 = .ok () (w7.setRow (G + 2) (FaC (mkF ⟨ao, n, c, R, q, ho5, hn5, hc5, F5⟩))) := stz
 go_wp2_with fail
 clear stz
 refine bodyPost_ret (res2Fb rfl rfl rfl HE.out.1) rfl ?_
 exact HE.out.2
end Go.Proofs.YtalpnhfoaohhhaaGreat
namespace Go.Proofs.YtalpnhfoaohhhaaGreat.K
open Go.RowKit
theorem OwnE.empty {B0 B : Nat} {w w' : World} (hb : Below B0 w w') (hB : B <= w'.heap.size) (h0 : B0 <= B) : OwnE B0 B w (w'.alloc (.cells #[] 36)) (some ⟨w'.heap.size, 0, none⟩) 0 [] := by
 refine ⟨⟨rfl, Or.inr ⟨w'.heap.size, 0, #[], rfl, hB, heap_alloc_new _ _, Nat.le_refl _, Nat.zero_le _, rfl, rfl⟩⟩, hb.alloc (by omega) _, by simp; omega, h0⟩
theorem OwnE.appRun {B0 B : Nat} {w W : World} {ao : Option Addr} {cap : Nat} {acc : List En} (O : OwnE B0 B w W ao cap acc) (bo : Option Addr) (m c : Nat) (R : List En) (hR : ESrc W bo m c R) (n l : Nat) (hn : acc.length = n) (hl : n + m = l) (hlen : l <= 3518437208883) :
  ∃ a' c' W', (Builtin.append_ #[22, 22] 22 #[.slice ao n cap, .slice bo m c]).run Tryz.prog W = .ok (.slice a' l c') W' /\ OwnE B0 B w W' a' c' (acc ++ R) /\ (∀ q, q < W.heap.size -> (Value.slice ao n cap).ownBlock ≠ some q -> W'.heap[q]? = W.heap[q]?) /\ ((Value.slice a' l c').ownBlock = (Value.slice ao n cap).ownBlock ∨ (Value.slice a' l c').ownBlock = some W.heap.size) /\ W.heap.size <= W'.heap.size := by
 subst hn hl
 obtain ⟨i0, hi, hz0, hz1, hz2⟩ := info_parts info28
 have hB := O.hB
 have hB0 := O.hB0
 cases bo with
 | none =>
  obtain ⟨rfl, rfl⟩ := hR.2.1 rfl
  obtain rfl : R = [] := List.eq_nil_of_length_eq_zero hR.1
  have hrun := run_append_owned_none (P := Tryz.prog) (w := W) B 22 22 36 i0 4 Tryz.underlying22 hi _ acc.length (ecs acc) O.own
  exact ⟨ao, cap, W, hrun, by rw [List.append_nil]; exact O, fun _ _ _ => rfl, .inl rfl, Nat.le_refl _⟩
 | some ad =>
  obtain ⟨v', W2, hrun, hown, hgrow, _, hat⟩ := run_append_own_at (P := Tryz.prog) W B 22 22 36 i0 (.agg #[.int .i64 0, .int .i64 0, .string ⟨#[]⟩, .int .i64 0]) 4 40 Tryz.underlying22 hi hz0 hz1 hz2 rfl (by decide) (.slice ao acc.length cap) acc.length (ecs acc) O.own ad m c (ecs R) (by rw [ecs_length, hR.1]) (fun j u hj => hR.cells j u hj) (ecs_onecell R) (by unfold maxLen; omega) (by omega) hB
  have hrow : ∀ k, (Value.slice ao acc.length cap).ownBlock = some k -> B <= k := fun k hk => (O.own.lt k hk).1
  have hsz := hgrow.size
  have hbel : Below B0 w W2 := O.below.grown hgrow (by omega) (fun k hk => by have := hrow k hk; omega)
  have hm : m = R.length := hR.1.symm
  have hown2 : W2.ownsRow B 36 4 v' (acc ++ R).length (ecs (acc ++ R)) := by rw [List.length_append, ecs_append, <- hm]; exact hown
  rcases hown.2 with ⟨h0, h00⟩ | ⟨g, cap2, cur, hv, r⟩
  ·subst h0
   have e0 : acc.length + m = 0 := h00
   rw [e0]
   refine ⟨none, 0, W2, hrun, ⟨?_, hbel, by omega, hB0⟩, fun q hq hn => hgrow.block q hq (fun e => hn e.symm), hat, hsz⟩
   rw [List.length_append, <- hm, e0] at hown2
   rw [List.length_append, <- hm, e0]
   exact hown2
  ·subst hv
   refine ⟨some ⟨g, 0, none⟩, cap2, W2, hrun, ⟨?_, hbel, by omega, hB0⟩, fun q hq hn => hgrow.block q hq (fun e => hn e.symm), hat, hsz⟩
   rw [List.length_append, <- hm] at hown2 ⊢
   exact hown2
end Go.Proofs.YtalpnhfoaohhhaaGreat.K
