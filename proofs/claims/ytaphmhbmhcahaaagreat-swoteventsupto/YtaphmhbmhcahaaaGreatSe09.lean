/- PSo -/
import Derived.Test.YtaphmhbmhcahaaaGreatTk
import Derived.Test.YtaphmhbmhcahaaaGreatSe04
import Derived.Deep.RegionHeldLaw
set_option maxRecDepth 100000
set_option maxHeartbeats 4000000
namespace Go.Proofs.YtaphmhbmhcahaaaGreat
open Go.RowKit
attribute [local go_sem ↓] ldP_eq stP_eq ldA_eq stA_eq ldS_eq stS_eq
attribute [local go_sem] zeros_SA cells_SAv zero_PC cells_PV zero_SC cells_SV fold_PC fold_SC PC_size SC_size
theorem isRepP_any (r : Int) (w : World) : Calls Tryz.prog 111 #[.int .i64 r] w fun e w' => e = .returned (.bool (V.isR r)) /\ w' = w := by
 go_enter Tryz.func111, Tryz.ntmps111
 by_cases h0 : 0 <= r
 ·have HR : Hid (V.isR r = decide (r < 16)) := by show _ = _; unfold V.isR; rw [decide_eq_true h0, Bool.true_and]
  go_wp2
  go_ret
  exact ⟨ret_bool HR.out.symm, rfl⟩
 ·have HR : Hid (V.isR r = false) := by show _ = _; unfold V.isR; rw [decide_eq_false h0, Bool.false_and]
  go_wp2
  go_ret
  exact ⟨ret_bool HR.out.symm, rfl⟩

theorem setsOf_any (ao : Option Addr) (q cap : Nat) (X : List Pv) (w : World) (hS : PRow w ao q X) (hN : wt X <= 8796093022207) (hq : q <= 8796093022207) :
  Calls Tryz.prog 70 #[.slice ao q cap] w fun e w' => GivesA w w' e (runsOf X) := by
 have HS := hide hS
 have HN := hide hN
 clear hS hN
 go_enter Tryz.func70, Tryz.ntmps70
 go_wp2_with fail
 go_loopw [12] (fun i wr => ∃ (k : Nat) (F : Nat -> Sl), k <= q /\ i = .int .i64 k /\ Hid (SInv w wr F (runsOf (X.take k)))) (fun i _ => q - (intOf i).toNat)
 case atStart =>
  refine ⟨0, fun _ => sl0, Nat.zero_le _, rfl, ⟨(sets_new w _).below (below_new _ _), ?_, OwnA.nil _ _, fun r _ => rfl, ((Below.refl _ _).alloc (Nat.le_refl _) _).alloc (by simp) _, by simp⟩⟩
  have := sets_new (w.alloc (.cells (SA fun _ => sl0) 109)) (fun _ => sl0)
  rw [World.size_alloc] at this
  exact this
 case round =>
  obtain ⟨k, F, hk, rfl, HI⟩ := hrel
  rename World => w3
  by_cases hlt : k < q
  ·obtain ⟨ad, p, rfl, hp, A0, _⟩ := (HS.out.below HI.out.b).at k hlt
   have HSP := hide (HS.out.src p (List.mem_of_getElem? hp))
   have hld := run_ldP A0
   obtain ⟨w4, hst, PB, b4, z4⟩ := madeP w3 p w3.heap.size rfl
   have HW := hide (wt_at hp)
   have HTK := hide (take_onep hp)
   have HI4 := hide (HI.out.on b4)
   have HPB := hide PB
   have HOF := hide (HI.out.off w3.heap.size (Or.inr (Nat.le_refl _)))
   have HLT := hide HI.out.h
   clear A0 PB b4 z4 hp
   go_wp2_with fail
   go_loopw [16] (fun i wr => ∃ (j : Nat) (F : Nat -> Sl), j <= 16 /\ i = .int .i64 j /\ Hid (SInv w wr F (fun r => runsOf (X.take k) r ++ (if r < j then vecPart (V.at' p.P.vec r) else []))) /\ Hid (wr.heap[w3.heap.size]? = some (.cells (PC p) 26 (0, 0)) /\ Off F w3.heap.size)) (fun i _ => 16 - (intOf i).toNat)
   case atStart => exact ⟨0, F, Nat.zero_le _, rfl, HI4.out.congr (fun r _ => by simp), HPB.out, HOF.out⟩
   case round =>
    obtain ⟨j, F, hj, rfl, HI, HPO⟩ := hrel
    rename World => w5
    clear HI4 HPB HOF
    have PB : PBox w5 w3.heap.size p := HPO.out.1
    obtain ⟨n0, n1⟩ := PB.nums
    have HSP5 := hide (HSP.out.below HI.out.b)
    have HW2 := HW.out
    have HN2 := HN.out
    by_cases hjl : j < 16
    ·have HAT : Hid (V.atI p.P.vec j = V.at' p.P.vec j) := by show _ = _; unfold V.atI; rw [if_pos (by simp [V.isR]; omega), Int.toNat_natCast]
     obtain ⟨z, Hz⟩ : ∃ z, Hid (V.at' p.P.vec j = z) := ⟨_, rfl⟩
     rw [Hz.out] at HAT
     by_cases hz : 0 < z
     ·have hln := HI.out.len hjl
      have hle := runsOf_len (X.take k) j
      have HNX := hide (fun r (_ : r < 16) => vec_step (A := runsOf (X.take k)) (f := V.at' p.P.vec) Hz.out hz r)
      simp only [Nat.lt_irrefl, if_false, List.append_nil] at hln
      have HLN : Hid ((F j).n < 8796093022207) := by show _ < _; omega
      have c1 := HI.out.s.cell j hjl
      obtain ⟨sa, sn, sc, hf⟩ : ∃ sa sn sc, (F j).ao = sa /\ (F j).n = sn /\ (F j).cap = sc := ⟨_, _, _, rfl, rfl, rfl⟩
      rw [hf.1, hf.2.1, hf.2.2] at c1
      have HF := hide hf
      clear hf hln hle HW2 HN2
      go_wp2_with (first | (go_at_call 110; refine (V.at_any _ _ _ p.P.vec j _ HSP5.out.vec).mono ?_; rintro e w' ⟨rfl, rfl⟩; rw [HAT.out]) | (at_builtin; refine HI.out.o.append HI.out.h j hjl ⟨1, z⟩ _ rfl HLN.out rfl (.tmp 28) (.tmp 31) rfl sa sn sc HF.out rfl rfl ?_; intro g6 c6 w6 O6 h2 h3 h4; have d1 := (HI.out.mid h2).cell j hjl; have d2 := (HI.out.mid h2).frozen j; have HP := hide (HI.out.push j hjl ⟨1, z⟩ sn c6 g6 O6 h2 h3 h4 _ rfl); have HK := hide (keep_off (B := w.heap.size + 1) (k := j) (v := .slice (some ⟨g6, 0, none⟩) (sn + 1) c6) h2 PB.lt HPO.out.2 (by have := HLT.out; omega)); clear O6 h2 h3 h4))
      go_roundw
      case rel => exact ⟨j + 1, _, by omega, by go_num, HP.out.congr HNX.out, HK.out.1.trans PB, HK.out.2⟩
      case measure => simp [intOf]; omega
     ·have HNX := hide (fun r (_ : r < 16) => vec_skip (A := runsOf (X.take k)) (f := V.at' p.P.vec) Hz.out hz r)
      go_wp2_with (go_at_call 110; refine (V.at_any _ _ _ p.P.vec j _ HSP5.out.vec).mono ?_; rintro e w' ⟨rfl, rfl⟩; rw [HAT.out])
      go_roundw
      case rel => exact ⟨j + 1, F, by omega, by go_num, HI.out.congr HNX.out, HPO⟩
      case measure => simp [intOf]; omega
    ·obtain rfl : j = 16 := by omega
     have HL := HSP5.out.cloud.len
     have hbg := HSP5.out.cloud.big
     have HI' := hide (HI.out.congr (G' := fun r => (runsOf (X.take k) r ++ vecPart (V.at' p.P.vec r)) ++ cloudPart (p.P.cloud.take 0) r) (fun r hr => by simp [hr, cloudPart]))
     clear HW2 HN2
     obtain ⟨co, Hco⟩ : ∃ co, Hid (p.co = co) := ⟨_, rfl⟩
     have HSC := hide HSP.out.cloud
     rw [Hco.out] at n1 HSC
     rw [show ((16 : Nat) : Int) = 16 from rfl]
     go_wp2_with fail
     go_loopw [38] (fun i wr => ∃ (j : Nat) (F : Nat -> Sl), j <= p.cn /\ i = .int .i64 j /\ Hid (SInv w wr F (fun r => (runsOf (X.take k) r ++ vecPart (V.at' p.P.vec r)) ++ cloudPart (p.P.cloud.take j) r))) (fun i _ => p.cn - (intOf i).toNat)
     case atStart => exact ⟨0, F, Nat.zero_le _, rfl, HI'⟩
     case round =>
      obtain ⟨j, F, hj, rfl, HI⟩ := hrel
      rename World => w7
      clear HI' HPO PB n0 n1 HSP5 HLT
      by_cases hjl : j < p.cn
      ·obtain ⟨ca, rfl, A1⟩ := (HSC.out.below HI.out.b).at j hjl
       obtain ⟨c, Hc⟩ : ∃ c, Hid (p.P.cloud.getD j sn0 = c) := ⟨_, rfl⟩
       rw [Hc.out] at A1
       have hjc : j < p.P.cloud.length := by rw [HL]; exact hjl
       have HTC : Hid (p.P.cloud.take (j + 1) = p.P.cloud.take j ++ [c]) := by show _ = _; rw [List.take_succ_eq_append_getElem hjc, <- Hc.out]; simp [List.getD, hjc]
       have hld2 := run_ldS A1
       obtain ⟨w8, hst2, SB, b8, z8⟩ := madeS w7 c w7.heap.size rfl
       have HI8 := hide (HI.out.on b8)
       have HOC := hide (HI.out.off w7.heap.size (Or.inr (Nat.le_refl _)))
       obtain ⟨m0, m1, m2⟩ := SB.at
       have HSB := hide SB
       have HLT7 := hide HI.out.h
       clear b8 z8 A1 SB
       obtain ⟨x, Hx⟩ : ∃ x, Hid (V.isR c.rep = x) := ⟨_, rfl⟩
       cases x with
       | false =>
        have HNX := hide (fun r (hr : r < 16) => cloud_skip (A := fun r => runsOf (X.take k) r ++ vecPart (V.at' p.P.vec r)) (L := p.P.cloud.take j) Hx.out r hr)
        rw [<- HTC.out] at HNX
        go_wp2_with (go_at_call 111; refine (isRepP_any c.rep _).mono ?_; rintro e w' ⟨rfl, rfl⟩; rw [Hx.out])
        go_roundw
        case rel => exact ⟨j + 1, F, by omega, by go_num, HI8.out.congr HNX.out⟩
        case measure => simp [intOf]; omega
       | true =>
        have hr16 : 0 <= c.rep /\ c.rep < 16 := by have := Hx.out; unfold V.isR at this; simpa using this
        obtain ⟨y, Hy⟩ : ∃ y : Nat, Hid (c.rep = (y : Int)) := ⟨c.rep.toNat, by show _ = _; omega⟩
        have hy : y < 16 := by have := Hy.out; omega
        have HNX := hide (fun r (_ : r < 16) => cloud_step (A := fun r => runsOf (X.take k) r ++ vecPart (V.at' p.P.vec r)) (L := p.P.cloud.take j) Hy.out r)
        rw [<- HTC.out] at HNX
        have HLN : Hid ((F y).n < 8796093022207) := by
         have h1 := HI.out.len hy
         have h2 := runsOf_len (X.take k) y
         have h3 := vecPart_len (V.at' p.P.vec y)
         have h4 := cloudPart_len (p.P.cloud.take j) y
         have h5 := HW.out
         have h6 := HN.out
         simp only [List.length_append, List.length_take] at h1 h4
         show _ < _
         omega
        rw [Hy.out] at m0
        have c1 := HI8.out.s.cell y hy
        obtain ⟨sa, sn, sc, hf⟩ : ∃ sa sn sc, (F y).ao = sa /\ (F y).n = sn /\ (F y).cap = sc := ⟨_, _, _, rfl, rfl, rfl⟩
        rw [hf.1, hf.2.1, hf.2.2] at c1
        have HF := hide hf
        have y0 : (0 : Int) <= (y : Int) := by omega
        have y1 : (y : Int) < 16 := by omega
        have HSW : Hid (∀ W : World, W.heap[w7.heap.size]? = w8.heap[w7.heap.size]? -> W.cell? ⟨w7.heap.size, 0, none⟩ = some (.int .i64 (y : Int)) /\ W.cell? ⟨w7.heap.size, 1, none⟩ = some (.int .i64 c.lo) /\ W.cell? ⟨w7.heap.size, 2, none⟩ = some (.int .i64 c.hi)) := fun W e1 =>
         ⟨(World.cell?_of_block e1).trans m0, (World.cell?_of_block e1).trans m1, (World.cell?_of_block e1).trans m2⟩
        have a1 := ((below_new w8 (.cells #[.int .i64 c.lo, .int .i64 c.hi] 159)).cell (World.block_lt_of_cell? _ _ c1)).trans c1
        have HSB2 := hide (World.block_lt_of_cell? _ _ c1)
        clear hf hr16
        go_wp2_with (go_at_call 111; refine (isRepP_any _ _).mono ?_; rintro e w' ⟨rfl, rfl⟩; rw [<- Hy.out, Hx.out])
        refine wp_region_held_drew (S := fun W => W.cell? ⟨w7.heap.size, 0, none⟩ = some (.int .i64 (y : Int)) /\ W.cell? ⟨w7.heap.size, 1, none⟩ = some (.int .i64 c.lo) /\ W.cell? ⟨w7.heap.size, 2, none⟩ = some (.int .i64 c.hi)) (by kernel_rfl) (HSW.out _ rfl) (fun hHeld => ?_)
        refine wTk 0 ⟨some 45, .fieldAddr 122 (.tmp 9) 0, 0, "past.go:27", #[], none⟩ rfl ?_
        refine wTk 1 ⟨some 46, .load 3 (.tmp 45), 3, "past.go:27", #[⟨0, .data⟩], none⟩ rfl ?_
        refine wTk 2 ⟨some 47, .fieldAddr 122 (.tmp 9) 0, 0, "past.go:27", #[], none⟩ rfl ?_
        refine wTk 3 ⟨some 48, .load 3 (.tmp 47), 3, "past.go:27", #[⟨2, .data⟩], none⟩ rfl ?_
        refine wTk 4 ⟨some 49, .indexAddr 109 (.tmp 3) (.tmp 48), 0, "past.go:27", #[⟨3, .data⟩], none⟩ rfl ?_
        refine wTk 6 ⟨some 51, .fieldAddr 122 (.tmp 9) 1, 0, "past.go:27", #[], none⟩ rfl ?_
        refine wTk 7 ⟨some 52, .load 3 (.tmp 51), 3, "past.go:27", #[⟨6, .data⟩], none⟩ rfl ?_
        refine wTk 8 ⟨some 53, .fieldAddr 122 (.tmp 9) 2, 0, "past.go:27", #[], none⟩ rfl ?_
        refine wTk 9 ⟨some 54, .load 3 (.tmp 53), 3, "past.go:27", #[⟨8, .data⟩], none⟩ rfl ?_
        refine wTk 10 ⟨some 55, .build 159 #[(0, .tmp 52), (1, .tmp 54)], 159, "past.go:27", #[⟨7, .data⟩, ⟨9, .data⟩], none⟩ rfl ?_
        refine wpAnyH_ready (rs := [5, 11]) (by kernel_rfl) (by simp) ?_
        refine AllReadyH.cons rfl (fun K hK => ?_) ?_
        ·go_simp
         refine hK.out _ _ (HSW.out _ rfl) (fun hHeld => ?_)
         clear hK K
         refine wpAnyH_ready (rs := [11]) (by kernel_rfl) (by simp) (.cons rfl (fun K hK => ?_) .nil)
         go_simp
         refine hK.out _ _ (HSW.out _ (Below.heap_alloc _ _ _ HSB.out.lt)) (fun hHeld => ?_)
         clear hK K
         refine wpAnyH_ready (rs := [12]) (by kernel_rfl) (by simp) (.cons rfl (fun K hK => ?_) .nil)
         refine HI8.out.o.step HI8.out.h y hy ⟨c.lo, c.hi⟩ _ (by rfl) HLN.out (by rfl) (.tmp 50) (.tmp 56) (by rfl) sa sn sc HF.out (by rfl) _ (by rfl) (by rfl) ?_
         intro g6 c6 w6 O6 h2 h3 h4
         have d1 := (HI8.out.mid h2).cell y hy
         have d2 := (HI8.out.mid h2).frozen y
         have HP := hide (HI8.out.push y hy ⟨c.lo, c.hi⟩ sn c6 g6 O6 h2 h3 h4 _ rfl)
         have HK2 := hide (keep_off (B := w.heap.size + 1) (k := y) (v := .slice (some ⟨g6, 0, none⟩) (sn + 1) c6) h2 HSB.out.lt HOC.out (by have := HLT7.out; omega)).1
         refine hK.out _ _ (HSW.out _ (h2 _ HSB.out.lt HOC.out).1) (fun hHeld => ?_)
         clear hK K
         refine wTk 13 ⟨some 58, .indexAddr 109 (.tmp 3) (.tmp 46), 0, "past.go:27", #[⟨1, .data⟩, ⟨0, .phase⟩, ⟨1, .phase⟩, ⟨2, .phase⟩, ⟨3, .phase⟩, ⟨4, .phase⟩, ⟨5, .phase⟩, ⟨6, .phase⟩, ⟨7, .phase⟩, ⟨8, .phase⟩, ⟨9, .phase⟩, ⟨10, .phase⟩, ⟨11, .phase⟩, ⟨12, .phase⟩], none⟩ rfl ?_
         refine wpAnyH_ready (rs := [14]) (by kernel_rfl) (by simp) (.cons rfl (fun K hK => ?_) .nil)
         go_simp
         refine hK.out _ _ (HSW.out _ HK2.out) (fun hHeld => ?_)
         clear hK K
         refine wpAnyH_done (by kernel_rfl) ?_ _
         clear hHeld O6 h2 h3 h4
         go_wp2_with fail
         go_roundw
         case rel => exact ⟨j + 1, _, by omega, by go_num, HP.out.congr HNX.out⟩
         case measure => simp [intOf]; omega
        ·refine AllReadyH.cons rfl (fun K hK => ?_) ?_
         rotate_left
         ·exact AllReadyH.nil
         go_simp
         refine hK.out _ _ (HSW.out _ (Below.heap_alloc _ _ _ HSB.out.lt)) (fun hHeld => ?_)
         clear hK K
         refine wpAnyH_ready (rs := [5]) (by kernel_rfl) (by simp) (.cons rfl (fun K hK => ?_) .nil)
         go_simp
         refine hK.out _ _ (HSW.out _ (Below.heap_alloc _ _ _ HSB.out.lt)) (fun hHeld => ?_)
         clear hK K
         refine wpAnyH_ready (rs := [12]) (by kernel_rfl) (by simp) (.cons rfl (fun K hK => ?_) .nil)
         refine HI8.out.o.step HI8.out.h y hy ⟨c.lo, c.hi⟩ _ (by rfl) HLN.out (by rfl) (.tmp 50) (.tmp 56) (by rfl) sa sn sc HF.out (by rfl) _ (by rfl) (by rfl) ?_
         intro g6 c6 w6 O6 h2 h3 h4
         have d1 := (HI8.out.mid h2).cell y hy
         have d2 := (HI8.out.mid h2).frozen y
         have HP := hide (HI8.out.push y hy ⟨c.lo, c.hi⟩ sn c6 g6 O6 h2 h3 h4 _ rfl)
         have HK2 := hide (keep_off (B := w.heap.size + 1) (k := y) (v := .slice (some ⟨g6, 0, none⟩) (sn + 1) c6) h2 HSB.out.lt HOC.out (by have := HLT7.out; omega)).1
         refine hK.out _ _ (HSW.out _ (h2 _ HSB.out.lt HOC.out).1) (fun hHeld => ?_)
         clear hK K
         refine wTk 13 ⟨some 58, .indexAddr 109 (.tmp 3) (.tmp 46), 0, "past.go:27", #[⟨1, .data⟩, ⟨0, .phase⟩, ⟨1, .phase⟩, ⟨2, .phase⟩, ⟨3, .phase⟩, ⟨4, .phase⟩, ⟨5, .phase⟩, ⟨6, .phase⟩, ⟨7, .phase⟩, ⟨8, .phase⟩, ⟨9, .phase⟩, ⟨10, .phase⟩, ⟨11, .phase⟩, ⟨12, .phase⟩], none⟩ rfl ?_
         refine wpAnyH_ready (rs := [14]) (by kernel_rfl) (by simp) (.cons rfl (fun K hK => ?_) .nil)
         go_simp
         refine hK.out _ _ (HSW.out _ HK2.out) (fun hHeld => ?_)
         clear hK K
         refine wpAnyH_done (by kernel_rfl) ?_ _
         clear hHeld O6 h2 h3 h4
         go_wp2_with fail
         go_roundw
         case rel => exact ⟨j + 1, _, by omega, by go_num, HP.out.congr HNX.out⟩
         case measure => simp [intOf]; omega
      ·obtain rfl : j = p.cn := by omega
       have HNX : Hid (∀ r, r < 16 -> (runsOf (X.take k) r ++ vecPart (V.at' p.P.vec r)) ++ cloudPart (p.P.cloud.take p.cn) r = runsOf (X.take (k + 1)) r) := fun r _ => by
        rw [HTK.out, runsOf_append, runsOf_one, runsAt, <- HL, List.take_length, List.append_assoc]
       go_wp2_with fail
       go_roundw
       case rel => exact ⟨k + 1, F, by omega, by go_num, HI.out.congr HNX.out⟩
       case measure => simp [intOf]; omega
  ·obtain rfl : k = q := by omega
   have l1 := run_ldA HI.out.s
   have s1 := run_stA (F' := F) HI.out.z
   have HF : Hid (∀ r, r < 16 -> (F r).L = runsOf X r) := fun r hr => by rw [HI.out.l r hr, <- HS.out.len, List.take_length]
   have HB : Hid (RowsIn w.heap.size (w3.setRow w.heap.size (SA F)) F (runsOf X)) := by
    have hO : OwnA (w.heap.size + 2) (w3.setRow w.heap.size (SA F)) F := HI.out.o.kept (fun q hq hno => setRow_other _ _ _ _ (fun e => hno (by rw [e]; exact HI.out.off _ (Or.inl (by omega)))))
    have hlt : ∀ r, r < 16 -> ∀ ad, (F r).ao = some ad -> w.heap.size + 2 <= ad.block /\ ad.block < (w3.setRow w.heap.size (SA F)).heap.size := fun r hr ad e => hO.lt hr (by unfold blk; rw [e]; rfl)
    refine ⟨fun r hr => hO.src (by have := HI.out.h; simp [World.setRow]; omega) hr ?_, HF.out, fun r hr ad e => by have := hlt r hr ad e; omega, fun r hr ad e => (hlt r hr ad e).2⟩
    have h1 := runsOf_len X r
    have h2 := HI.out.o.len hr
    have h3 := HF.out r hr
    have h4 := HN.out
    rw [h3] at h2
    omega
   go_wp2_with fail
   exact bodyPost_ret (v := SAv F) (resA Tryz.results70 rfl HI.out.z.setRow) rfl ⟨F, rfl, HB.out, below_setRow HI.out.b (Nat.le_refl _)⟩
end Go.Proofs.YtaphmhbmhcahaaaGreat
