/- The law's own meant: does the past mean this dot? -/
import Derived.Test.YtlnhafjpmkopgaaPPl
import Derived.Deep.RegionWith
namespace Go.Proofs.Ytlnhafjpmkopgaa
open Go.RowKit

def BIf (x : Bool) (P : Prop) : Prop := x = true ↔ P
theorem BIf.out {x : Bool} {P : Prop} (h : BIf x P) : x = true ↔ P := h
theorem BIf.yes {P : Prop} (h : P) : BIf true P := ⟨fun _ => h, fun _ => rfl⟩
theorem BIf.no {P : Prop} (h : ¬ P) : BIf false P := ⟨(fun e => by cases e), fun e => absurd e h⟩
/-- a bool is handed back; old memory stands -/
def GivB (w w' : World) (e : Ending) (P : Prop) : Prop := ∃ b, e = .returned (.bool b) ∧ BIf b P ∧ Below w.heap.size w w'
/-- the dot (replica, number) is in the past -/
def dotIn (P : Pst) (d : Rn) : Prop := V.isR d.lo = true ∧ mem (runsAt P d.lo.toNat) d.hi
theorem mem_runs (P : Pst) (r : Nat) (hr : r < 16) (n : Int) : mem (runsAt P r) n ↔ 1 ≤ n ∧ n ≤ 1000000000 ∧ (n ≤ P.vec.getD r 0 ∨ ∃ c, c ∈ P.cloud ∧ c.rep = (r : Int) ∧ c.lo ≤ n ∧ n ≤ c.hi) := by
  unfold runsAt
  rw [mem_append]
  have hv : mem (vecPart (V.at' P.vec r)) n ↔ 1 ≤ n ∧ n ≤ 1000000000 ∧ n ≤ P.vec.getD r 0 := by
    unfold vecPart V.at' V.clamp
    rw [if_pos hr]
    generalize P.vec.getD r 0 = z
    by_cases h1 : z < 0
    · simp only [if_pos h1]
      rw [if_neg (by omega)]
      exact ⟨fun h => absurd h (mem_nil n), fun h => by omega⟩
    · by_cases h2 : 1000000000 < z
      · simp only [if_neg h1, if_pos h2]
        rw [if_pos (by omega), mem_one]
        exact ⟨fun h => by simp only at h; omega, fun h => by simp only; omega⟩
      · simp only [if_neg h1, if_neg h2]
        by_cases h3 : 0 < z
        · rw [if_pos h3, mem_one]
          exact ⟨fun h => by simp only at h; omega, fun h => by simp only; omega⟩
        · rw [if_neg h3]
          exact ⟨fun h => absurd h (mem_nil n), fun h => by omega⟩
  have hc : mem (cloudPart P.cloud r) n ↔ 1 ≤ n ∧ n ≤ 1000000000 ∧ ∃ c, c ∈ P.cloud ∧ c.rep = (r : Int) ∧ c.lo ≤ n ∧ n ≤ c.hi := by
    unfold cloudPart mem
    refine and_congr_right fun _ => and_congr_right fun _ => ?_
    constructor
    · rintro ⟨x, hx, e⟩
      obtain ⟨c, hc, rfl⟩ := List.mem_map.1 hx
      obtain ⟨h1, h2⟩ := List.mem_filter.1 hc
      exact ⟨c, h1, of_decide_eq_true h2, e⟩
    · rintro ⟨c, hc, h1, h2⟩
      exact ⟨⟨c.lo, c.hi⟩, List.mem_map.2 ⟨c, List.mem_filter.2 ⟨hc, decide_eq_true h1⟩, rfl⟩, h2⟩
  rw [hv, hc]
  constructor
  · rintro (⟨h1, h2, h3⟩ | ⟨h1, h2, h3⟩)
    · exact ⟨h1, h2, Or.inl h3⟩
    · exact ⟨h1, h2, Or.inr h3⟩
  · rintro ⟨h1, h2, h3 | h3⟩
    · exact Or.inl ⟨h1, h2, h3⟩
    · exact Or.inr ⟨h1, h2, h3⟩
theorem dotIn_iff (P : Pst) (d : Rn) : dotIn P d ↔ 0 ≤ d.lo ∧ d.lo < 16 ∧ 1 ≤ d.hi ∧ d.hi ≤ 1000000000 ∧ (d.hi ≤ P.vec.getD d.lo.toNat 0 ∨ ∃ c, c ∈ P.cloud ∧ c.rep = d.lo ∧ c.lo ≤ d.hi ∧ d.hi ≤ c.hi) := by
  unfold dotIn
  by_cases h : 0 ≤ d.lo ∧ d.lo < 16
  · have e : V.isR d.lo = true := by simp [V.isR]; exact h
    have e2 : ((d.lo.toNat : Nat) : Int) = d.lo := by omega
    rw [mem_runs P _ (by omega), e2]
    simp [e, h.1, h.2]
  · have e : ¬ V.isR d.lo = true := by simp [V.isR]; omega
    exact ⟨fun g => absurd g.1 e, fun g => absurd ⟨g.1, g.2.1⟩ h⟩
/-- the span has the dot -/
def inSpan (d : Rn) (c : Sn) : Prop := c.rep = d.lo ∧ c.lo ≤ d.hi ∧ d.hi ≤ c.hi
theorem snat_field {w : World} {p : Addr} {s : Sn} (A : SnAt w p s) : w.cell? (p.add 0) = some (.int .i64 s.rep) := by rw [add_zero]; exact A.c0
theorem ssrc_mem {w : World} {ao : Option Addr} {m c : Nat} {L : List Sn} (S : SSrc w ao m c L) {x : Sn} (h : x ∈ L) : ∃ t, t < m ∧ L.getD t sn0 = x := by
  obtain ⟨t, ht, e⟩ := List.getElem_of_mem h
  exact ⟨t, by rw [← S.len]; exact ht, by simp [List.getD, ht, e]⟩
attribute [local go_sem ↓] ldP_eq stP_eq
attribute [local go_sem] zero_PC cells_PV fold_PC PC_size cells_RV
set_option maxRecDepth 100000 in
set_option maxHeartbeats 4000000 in
theorem meantL_any (p : Pv) (d : Rn) (w : World) (hS : PSrc w p) :
    Calls Try.prog 13 #[PV p, RV d] w fun e w' => GivB w w' e (dotIn p.P d) := by
  have b1 := below_new w (.cells (PC p) 25)
  have b2 := below_new (w.alloc (.cells (PC p) 25)) (.cells (RC d) 35)
  obtain ⟨n0, n1⟩ := ((pbox_new w p).below b2).nums
  have X1 := box_new (w.alloc (.cells (PC p) 25)) 35 d
  rw [World.size_alloc] at X1
  have d0 := X1.at.c0
  have d1 : ((w.alloc (.cells (PC p) 25)).alloc (.cells (RC d) 35)).cell? ⟨w.heap.size + 1, 1, none⟩ = some (.int .i64 d.hi) := X1.at.c1
  have HBK := hide (b1.trans (b2.mono b1.size))
  have HSV := hide (hS.below HBK.out).vec
  have HSC := hide (hS.below HBK.out).cloud
  have g9 := hS.big
  have g8 := hS.cloud.big
  clear hS b1 b2 X1
  obtain ⟨wk, hwk⟩ : ∃ wk, (w.alloc (.cells (PC p) 25)).alloc (.cells (RC d) 35) = wk := ⟨_, rfl⟩
  rw [hwk] at n0 n1 HBK HSV HSC d0 d1
  obtain ⟨pvo, pvn, pvc, pco, pcn, pcc, pP⟩ := p
  obtain ⟨rep, num⟩ := d
  dsimp only at n0 n1 HSV HSC d0 d1 g9 g8 ⊢
  by_cases q1 : rep < 0
  · have HNO : Hid (¬ dotIn pP ⟨rep, num⟩) := fun h => by have := (dotIn_iff _ _).1 h; simp only at this; omega
    go_enter Try.func13, Try.ntmps13
    go_wp2_with fail
    go_ret
    exact ⟨false, rfl, BIf.no HNO.out, HBK.out⟩
  by_cases q2 : 15 < rep
  · have HNO : Hid (¬ dotIn pP ⟨rep, num⟩) := fun h => by have := (dotIn_iff _ _).1 h; simp only at this; omega
    go_enter Try.func13, Try.ntmps13
    go_wp2_with fail
    go_ret
    exact ⟨false, rfl, BIf.no HNO.out, HBK.out⟩
  by_cases q3 : num < 1
  · have HNO : Hid (¬ dotIn pP ⟨rep, num⟩) := fun h => by have := (dotIn_iff _ _).1 h; simp only at this; omega
    go_enter Try.func13, Try.ntmps13
    go_wp2_with fail
    go_ret
    exact ⟨false, rfl, BIf.no HNO.out, HBK.out⟩
  by_cases q4 : 1000000000 < num
  · have HNO : Hid (¬ dotIn pP ⟨rep, num⟩) := fun h => by have := (dotIn_iff _ _).1 h; simp only at this; omega
    go_enter Try.func13, Try.ntmps13
    go_wp2_with fail
    go_ret
    exact ⟨false, rfl, BIf.no HNO.out, HBK.out⟩
  obtain ⟨k, rfl⟩ : ∃ k : Nat, rep = k := ⟨rep.toNat, by omega⟩
  have HG : Hid ((0 : Int) ≤ (k : Int) ∧ (k : Int) < 16 ∧ 1 ≤ num ∧ num ≤ 1000000000) := ⟨by omega, by omega, by omega, by omega⟩
  by_cases hv : k < pvn
  · cases pvo with
    | none => have := HSV.out.2.1 rfl; omega
    | some va =>
      have v0 := HSV.out.2.2 va rfl k hv
      obtain ⟨z, Hz⟩ : ∃ z, Hid (pP.vec.getD k 0 = z) := ⟨_, rfl⟩
      rw [Hz.out] at v0
      have s1 := cell_regrown n0
      have s2 := cell_regrown d0
      have s3 := cell_regrown d1
      have s4 := cell_regrown v0
      clear v0
      by_cases hz : num ≤ z
      · have HYES : Hid (dotIn pP ⟨(k : Int), num⟩) := (dotIn_iff _ _).2 ⟨HG.out.1, HG.out.2.1, HG.out.2.2.1, HG.out.2.2.2, Or.inl (by show num ≤ pP.vec.getD ((k : Int).toNat) 0; rw [Int.toNat_natCast, Hz.out]; exact hz)⟩
        go_enter Try.func13, Try.ntmps13
        go_wp2_with fail
        refine wp_region_quiet_below (by kernel_rfl) (by kernel_rfl) ?_
        repeat (with_reducible (refine wpQuiet_step ?_); intro K hK; go_simp; (try rw [if_neg (by unfold undef; simp)]); first | (with_reducible (refine hK _ ?_); clear hK K) | (apply Exists.intro; refine ⟨fun _ => ?_, hK _ ?_⟩; (fail); clear hK K))
        with_reducible (refine wpQuiet_nil ?_)
        intro w5 hw'
        obtain ⟨⟨dq, osq⟩, hw''⟩ := hw'
        have b5 : Below wk.heap.size wk w5 := by rw [hw'']; exact below_regrown wk dq osq
        clear hw'' dq osq
        have HBE := hide (HBK.out.trans (b5.mono HBK.out.size))
        clear s1 s2 s3 s4 b5
        go_wp2_with fail
        go_ret
        exact ⟨true, rfl, BIf.yes HYES.out, HBE.out⟩
      · have HZ : Hid (¬ num ≤ pP.vec.getD ((k : Int).toNat) 0) := by show ¬ _; rw [Int.toNat_natCast, Hz.out]; exact hz
        have hz' := decide_eq_false hz
        go_enter Try.func13, Try.ntmps13
        go_wp2_with fail
        refine wp_region_quiet_below (by kernel_rfl) (by kernel_rfl) ?_
        repeat (with_reducible (refine wpQuiet_step ?_); intro K hK; go_simp; (try rw [if_neg (by unfold undef; simp)]); first | (with_reducible (refine hK _ ?_); clear hK K) | (apply Exists.intro; refine ⟨fun _ => ?_, hK _ ?_⟩; (fail); clear hK K))
        with_reducible (refine wpQuiet_nil ?_)
        intro w5 hw'
        obtain ⟨⟨dq, osq⟩, hw''⟩ := hw'
        have b5 : Below wk.heap.size wk w5 := by rw [hw'']; exact below_regrown wk dq osq
        clear hw'' dq osq
        have HBB := hide (HBK.out.trans (b5.mono HBK.out.size))
        have HSC5 := hide (HSC.out.below b5)
        have m1 := (b5.cell (World.block_lt_of_cell? _ _ n1)).trans n1
        have m2 := (b5.cell (World.block_lt_of_cell? _ _ d0)).trans d0
        have m3 := (b5.cell (World.block_lt_of_cell? _ _ d1)).trans d1
        clear s1 s2 s3 s4 b5 n0 n1 d0 d1 HSC hz hz' HSV hwk HBK
        have n1 := m1
        have d0 := m2
        have d1 := m3
        have HSC := HSC5
        go_wp2_with fail
        go_loopw [5] (fun i wr => ∃ j : Nat, j ≤ pcn ∧ i = .int .i64 j ∧ Hid ((∀ t, t < j → ¬ inSpan ⟨(k : Int), num⟩ (pP.cloud.getD t sn0)) ∧ Below w5.heap.size w5 wr)) (fun i _ => pcn - (intOf i).toNat)
        case atStart => exact ⟨0, Nat.zero_le _, rfl, fun t h => by omega, Below.refl _ _⟩
        case round =>
          obtain ⟨j, hj, rfl, HJ⟩ := hrel
          rename World => w6
          have p1 := (HJ.out.2.cell (World.block_lt_of_cell? _ _ n1)).trans n1
          have e0 := (HJ.out.2.cell (World.block_lt_of_cell? _ _ d0)).trans d0
          have e1 := (HJ.out.2.cell (World.block_lt_of_cell? _ _ d1)).trans d1
          by_cases hlt : j < pcn
          · obtain ⟨ad, hco, A0⟩ := (HSC.out.below HJ.out.2).at j hlt
            subst hco
            obtain ⟨bb, oo, rfl⟩ := HSC.out.spot (by omega)
            rw [Addr.add_lit] at A0
            obtain ⟨c, Hc⟩ : ∃ c, Hid (pP.cloud.getD j sn0 = c) := ⟨_, rfl⟩
            rw [Hc.out] at A0
            have r1 := cell_regrown p1
            have r2 := cell_regrown e0
            have r3 := cell_regrown e1
            have r4 := cell_regrown A0.c0
            have r5 := A0.c1
            have r6 := A0.c2
            rw [Addr.add_lit] at r5 r6
            replace r5 := cell_regrown r5
            replace r6 := cell_regrown r6
            have HIN : Hid (c ∈ pP.cloud) := by
              show _ ∈ _
              rw [← Hc.out]
              have hl : j < pP.cloud.length := by rw [HSC.out.len]; exact hlt
              simp [List.getD, hl]
            clear A0 e0 e1
            by_cases g1 : c.rep = (k : Int)
            · have g1' : (c.rep == (k : Int)) = true := by simp [g1]
              by_cases g2 : c.lo ≤ num
              · by_cases g3 : num ≤ c.hi
                · have HYES : Hid (dotIn pP ⟨(k : Int), num⟩) := (dotIn_iff _ _).2 ⟨HG.out.1, HG.out.2.1, HG.out.2.2.1, HG.out.2.2.2, Or.inr ⟨c, HIN.out, g1, g2, g3⟩⟩
                  clear g1
                  go_wp2_with fail
                  refine wp_region_quiet_below (by kernel_rfl) (by kernel_rfl) ?_
                  repeat (with_reducible (refine wpQuiet_step ?_); intro K hK; go_simp; (try rw [if_neg (by unfold undef; simp)]); first | (with_reducible (refine hK _ ?_); clear hK K) | (apply Exists.intro; refine ⟨fun _ => ?_, hK _ ?_⟩; (fail); clear hK K))
                  with_reducible (refine wpQuiet_nil ?_)
                  intro w7 hw'
                  obtain ⟨⟨dq, osq⟩, hw''⟩ := hw'
                  have b7 : Below w6.heap.size w6 w7 := by rw [hw'']; exact below_regrown w6 dq osq
                  clear hw'' dq osq
                  have HBE := hide (HBB.out.trans ((HJ.out.2.trans (b7.mono HJ.out.2.size)).mono HBB.out.size))
                  clear r1 r2 r3 r4 r5 r6 b7 p1
                  go_wp2_with fail
                  go_ret
                  exact ⟨true, rfl, BIf.yes HYES.out, HBE.out⟩
                · have HNO : Hid (¬ inSpan ⟨(k : Int), num⟩ c) := fun h => g3 h.2.2
                  have g3' := decide_eq_false g3
                  clear g1
                  go_wp2_with fail
                  refine wp_region_quiet_below (by kernel_rfl) (by kernel_rfl) ?_
                  repeat (with_reducible (refine wpQuiet_step ?_); intro K hK; go_simp; (try rw [if_neg (by unfold undef; simp)]); first | (with_reducible (refine hK _ ?_); clear hK K) | (apply Exists.intro; refine ⟨fun _ => ?_, hK _ ?_⟩; (fail); clear hK K))
                  with_reducible (refine wpQuiet_nil ?_)
                  intro w7 hw'
                  obtain ⟨⟨dq, osq⟩, hw''⟩ := hw'
                  have b7 : Below w6.heap.size w6 w7 := by rw [hw'']; exact below_regrown w6 dq osq
                  clear hw'' dq osq
                  have HBN := hide (HJ.out.2.trans (b7.mono HJ.out.2.size))
                  clear r1 r2 r3 r4 r5 r6 b7 p1
                  go_wp2_with fail
                  go_roundw
                  case rel => exact ⟨j + 1, by omega, by go_num, fun t ht => by
                    by_cases e : t = j
                    · subst e; rw [Hc.out]; exact HNO.out
                    · exact HJ.out.1 t (by omega), HBN.out⟩
                  case measure => simp [intOf]; omega
              · have HNO : Hid (¬ inSpan ⟨(k : Int), num⟩ c) := fun h => g2 h.2.1
                have g2' := decide_eq_false g2
                clear g1
                go_wp2_with fail
                refine wp_region_quiet_below (by kernel_rfl) (by kernel_rfl) ?_
                repeat (with_reducible (refine wpQuiet_step ?_); intro K hK; go_simp; (try rw [if_neg (by unfold undef; simp)]); first | (with_reducible (refine hK _ ?_); clear hK K) | (apply Exists.intro; refine ⟨fun _ => ?_, hK _ ?_⟩; (fail); clear hK K))
                with_reducible (refine wpQuiet_nil ?_)
                intro w7 hw'
                obtain ⟨⟨dq, osq⟩, hw''⟩ := hw'
                have b7 : Below w6.heap.size w6 w7 := by rw [hw'']; exact below_regrown w6 dq osq
                clear hw'' dq osq
                have HBN := hide (HJ.out.2.trans (b7.mono HJ.out.2.size))
                clear r1 r2 r3 r4 r5 r6 b7 p1
                go_wp2_with fail
                go_roundw
                case rel => exact ⟨j + 1, by omega, by go_num, fun t ht => by
                  by_cases e : t = j
                  · subst e; rw [Hc.out]; exact HNO.out
                  · exact HJ.out.1 t (by omega), HBN.out⟩
                case measure => simp [intOf]; omega
            · have HNO : Hid (¬ inSpan ⟨(k : Int), num⟩ c) := fun h => g1 h.1
              have g1' : (c.rep == (k : Int)) = false := by simp [g1]
              clear g1
              go_wp2_with fail
              refine wp_region_quiet_below (by kernel_rfl) (by kernel_rfl) ?_
              repeat (with_reducible (refine wpQuiet_step ?_); intro K hK; go_simp; (try rw [if_neg (by unfold undef; simp)]); first | (with_reducible (refine hK _ ?_); clear hK K) | (apply Exists.intro; refine ⟨fun _ => ?_, hK _ ?_⟩; (fail); clear hK K))
              with_reducible (refine wpQuiet_nil ?_)
              intro w7 hw'
              obtain ⟨⟨dq, osq⟩, hw''⟩ := hw'
              have b7 : Below w6.heap.size w6 w7 := by rw [hw'']; exact below_regrown w6 dq osq
              clear hw'' dq osq
              have HBN := hide (HJ.out.2.trans (b7.mono HJ.out.2.size))
              clear r1 r2 r3 r4 r5 r6 b7 p1
              go_wp2_with fail
              go_roundw
              case rel => exact ⟨j + 1, by omega, by go_num, fun t ht => by
                by_cases e : t = j
                · subst e; rw [Hc.out]; exact HNO.out
                · exact HJ.out.1 t (by omega), HBN.out⟩
              case measure => simp [intOf]; omega
          · obtain rfl : j = pcn := by omega
            have HNO : Hid (¬ dotIn pP ⟨(k : Int), num⟩) := fun h => by
              rcases ((dotIn_iff _ _).1 h).2.2.2.2 with h | ⟨c, hc, h⟩
              · have h1 := HZ.out
                have h2 : num ≤ pP.vec.getD ((k : Int).toNat) 0 := h
                omega
              · obtain ⟨t, ht, e⟩ := ssrc_mem HSC.out hc
                exact HJ.out.1 t ht (by rw [e]; exact h)
            have HBE := hide (HBB.out.trans (HJ.out.2.mono HBB.out.size))
            go_wp2_with fail
            go_ret
            exact ⟨false, rfl, BIf.no HNO.out, HBE.out⟩
  · have HZ : Hid (¬ num ≤ pP.vec.getD ((k : Int).toNat) 0) := by
      show ¬ _
      rw [Int.toNat_natCast, List.getD, List.getElem?_eq_none (by have := HSV.out.1; omega)]
      simp
      omega
    have s1 := cell_regrown n0
    have s2 := cell_regrown d0
    have s3 := cell_regrown d1
    have hv' : ¬ (k : Int) < (pvn : Int) := by omega
    go_enter Try.func13, Try.ntmps13
    go_wp2_with fail
    refine wp_region_quiet_below (by kernel_rfl) (by kernel_rfl) ?_
    repeat (with_reducible (refine wpQuiet_step ?_); intro K hK; go_simp; (try rw [if_neg (by unfold undef; simp)]); first | (with_reducible (refine hK _ ?_); clear hK K) | (apply Exists.intro; refine ⟨fun _ => ?_, hK _ ?_⟩; (fail); clear hK K))
    with_reducible (refine wpQuiet_nil ?_)
    intro w5 hw'
    obtain ⟨⟨dq, osq⟩, hw''⟩ := hw'
    have b5 : Below wk.heap.size wk w5 := by rw [hw'']; exact below_regrown wk dq osq
    clear hw'' dq osq
    have HBB := hide (HBK.out.trans (b5.mono HBK.out.size))
    have HSC5 := hide (HSC.out.below b5)
    have m1 := (b5.cell (World.block_lt_of_cell? _ _ n1)).trans n1
    have m2 := (b5.cell (World.block_lt_of_cell? _ _ d0)).trans d0
    have m3 := (b5.cell (World.block_lt_of_cell? _ _ d1)).trans d1
    clear s1 s2 s3 b5 n0 n1 d0 d1 HSC HSV hwk HBK
    have n1 := m1
    have d0 := m2
    have d1 := m3
    have HSC := HSC5
    go_wp2_with fail
    go_loopw [5] (fun i wr => ∃ j : Nat, j ≤ pcn ∧ i = .int .i64 j ∧ Hid ((∀ t, t < j → ¬ inSpan ⟨(k : Int), num⟩ (pP.cloud.getD t sn0)) ∧ Below w5.heap.size w5 wr)) (fun i _ => pcn - (intOf i).toNat)
    case atStart => exact ⟨0, Nat.zero_le _, rfl, fun t h => by omega, Below.refl _ _⟩
    case round =>
      obtain ⟨j, hj, rfl, HJ⟩ := hrel
      rename World => w6
      have p1 := (HJ.out.2.cell (World.block_lt_of_cell? _ _ n1)).trans n1
      have e0 := (HJ.out.2.cell (World.block_lt_of_cell? _ _ d0)).trans d0
      have e1 := (HJ.out.2.cell (World.block_lt_of_cell? _ _ d1)).trans d1
      by_cases hlt : j < pcn
      · obtain ⟨ad, hco, A0⟩ := (HSC.out.below HJ.out.2).at j hlt
        subst hco
        obtain ⟨bb, oo, rfl⟩ := HSC.out.spot (by omega)
        rw [Addr.add_lit] at A0
        obtain ⟨c, Hc⟩ : ∃ c, Hid (pP.cloud.getD j sn0 = c) := ⟨_, rfl⟩
        rw [Hc.out] at A0
        have r1 := cell_regrown p1
        have r2 := cell_regrown e0
        have r3 := cell_regrown e1
        have r4 := cell_regrown A0.c0
        have r5 := A0.c1
        have r6 := A0.c2
        rw [Addr.add_lit] at r5 r6
        replace r5 := cell_regrown r5
        replace r6 := cell_regrown r6
        have HIN : Hid (c ∈ pP.cloud) := by
          show _ ∈ _
          rw [← Hc.out]
          have hl : j < pP.cloud.length := by rw [HSC.out.len]; exact hlt
          simp [List.getD, hl]
        clear A0 e0 e1
        by_cases g1 : c.rep = (k : Int)
        · have g1' : (c.rep == (k : Int)) = true := by simp [g1]
          by_cases g2 : c.lo ≤ num
          · by_cases g3 : num ≤ c.hi
            · have HYES : Hid (dotIn pP ⟨(k : Int), num⟩) := (dotIn_iff _ _).2 ⟨HG.out.1, HG.out.2.1, HG.out.2.2.1, HG.out.2.2.2, Or.inr ⟨c, HIN.out, g1, g2, g3⟩⟩
              clear g1
              go_wp2_with fail
              refine wp_region_quiet_below (by kernel_rfl) (by kernel_rfl) ?_
              repeat (with_reducible (refine wpQuiet_step ?_); intro K hK; go_simp; (try rw [if_neg (by unfold undef; simp)]); first | (with_reducible (refine hK _ ?_); clear hK K) | (apply Exists.intro; refine ⟨fun _ => ?_, hK _ ?_⟩; (fail); clear hK K))
              with_reducible (refine wpQuiet_nil ?_)
              intro w7 hw'
              obtain ⟨⟨dq, osq⟩, hw''⟩ := hw'
              have b7 : Below w6.heap.size w6 w7 := by rw [hw'']; exact below_regrown w6 dq osq
              clear hw'' dq osq
              have HBE := hide (HBB.out.trans ((HJ.out.2.trans (b7.mono HJ.out.2.size)).mono HBB.out.size))
              clear r1 r2 r3 r4 r5 r6 b7 p1
              go_wp2_with fail
              go_ret
              exact ⟨true, rfl, BIf.yes HYES.out, HBE.out⟩
            · have HNO : Hid (¬ inSpan ⟨(k : Int), num⟩ c) := fun h => g3 h.2.2
              have g3' := decide_eq_false g3
              clear g1
              go_wp2_with fail
              refine wp_region_quiet_below (by kernel_rfl) (by kernel_rfl) ?_
              repeat (with_reducible (refine wpQuiet_step ?_); intro K hK; go_simp; (try rw [if_neg (by unfold undef; simp)]); first | (with_reducible (refine hK _ ?_); clear hK K) | (apply Exists.intro; refine ⟨fun _ => ?_, hK _ ?_⟩; (fail); clear hK K))
              with_reducible (refine wpQuiet_nil ?_)
              intro w7 hw'
              obtain ⟨⟨dq, osq⟩, hw''⟩ := hw'
              have b7 : Below w6.heap.size w6 w7 := by rw [hw'']; exact below_regrown w6 dq osq
              clear hw'' dq osq
              have HBN := hide (HJ.out.2.trans (b7.mono HJ.out.2.size))
              clear r1 r2 r3 r4 r5 r6 b7 p1
              go_wp2_with fail
              go_roundw
              case rel => exact ⟨j + 1, by omega, by go_num, fun t ht => by
                by_cases e : t = j
                · subst e; rw [Hc.out]; exact HNO.out
                · exact HJ.out.1 t (by omega), HBN.out⟩
              case measure => simp [intOf]; omega
          · have HNO : Hid (¬ inSpan ⟨(k : Int), num⟩ c) := fun h => g2 h.2.1
            have g2' := decide_eq_false g2
            clear g1
            go_wp2_with fail
            refine wp_region_quiet_below (by kernel_rfl) (by kernel_rfl) ?_
            repeat (with_reducible (refine wpQuiet_step ?_); intro K hK; go_simp; (try rw [if_neg (by unfold undef; simp)]); first | (with_reducible (refine hK _ ?_); clear hK K) | (apply Exists.intro; refine ⟨fun _ => ?_, hK _ ?_⟩; (fail); clear hK K))
            with_reducible (refine wpQuiet_nil ?_)
            intro w7 hw'
            obtain ⟨⟨dq, osq⟩, hw''⟩ := hw'
            have b7 : Below w6.heap.size w6 w7 := by rw [hw'']; exact below_regrown w6 dq osq
            clear hw'' dq osq
            have HBN := hide (HJ.out.2.trans (b7.mono HJ.out.2.size))
            clear r1 r2 r3 r4 r5 r6 b7 p1
            go_wp2_with fail
            go_roundw
            case rel => exact ⟨j + 1, by omega, by go_num, fun t ht => by
              by_cases e : t = j
              · subst e; rw [Hc.out]; exact HNO.out
              · exact HJ.out.1 t (by omega), HBN.out⟩
            case measure => simp [intOf]; omega
        · have HNO : Hid (¬ inSpan ⟨(k : Int), num⟩ c) := fun h => g1 h.1
          have g1' : (c.rep == (k : Int)) = false := by simp [g1]
          clear g1
          go_wp2_with fail
          refine wp_region_quiet_below (by kernel_rfl) (by kernel_rfl) ?_
          repeat (with_reducible (refine wpQuiet_step ?_); intro K hK; go_simp; (try rw [if_neg (by unfold undef; simp)]); first | (with_reducible (refine hK _ ?_); clear hK K) | (apply Exists.intro; refine ⟨fun _ => ?_, hK _ ?_⟩; (fail); clear hK K))
          with_reducible (refine wpQuiet_nil ?_)
          intro w7 hw'
          obtain ⟨⟨dq, osq⟩, hw''⟩ := hw'
          have b7 : Below w6.heap.size w6 w7 := by rw [hw'']; exact below_regrown w6 dq osq
          clear hw'' dq osq
          have HBN := hide (HJ.out.2.trans (b7.mono HJ.out.2.size))
          clear r1 r2 r3 r4 r5 r6 b7 p1
          go_wp2_with fail
          go_roundw
          case rel => exact ⟨j + 1, by omega, by go_num, fun t ht => by
            by_cases e : t = j
            · subst e; rw [Hc.out]; exact HNO.out
            · exact HJ.out.1 t (by omega), HBN.out⟩
          case measure => simp [intOf]; omega
      · obtain rfl : j = pcn := by omega
        have HNO : Hid (¬ dotIn pP ⟨(k : Int), num⟩) := fun h => by
          rcases ((dotIn_iff _ _).1 h).2.2.2.2 with h | ⟨c, hc, h⟩
          · have h1 := HZ.out
            have h2 : num ≤ pP.vec.getD ((k : Int).toNat) 0 := h
            omega
          · obtain ⟨t, ht, e⟩ := ssrc_mem HSC.out hc
            exact HJ.out.1 t ht (by rw [e]; exact h)
        have HBE := hide (HBB.out.trans (HJ.out.2.mono HBB.out.size))
        go_wp2_with fail
        go_ret
        exact ⟨false, rfl, BIf.no HNO.out, HBE.out⟩
end Go.Proofs.Ytlnhafjpmkopgaa
