/- past's Holes: its contract. -/
import Derived.Test.YtlnhafjpmkopgaaPLs
namespace Go.Proofs.Ytlnhafjpmkopgaa
open Go.RowKit
attribute [local go_sem ↓] ldP_eq stP_eq ldA_eq stA_eq ixA_eq
attribute [local go_sem] zeros_SA cells_SAv zero_PC cells_PV fold_PC PC_size fold_PC1 zero_RC cells_RV RC_size fold_RC

/-- what is missing below a set's greatest number -/
def HoleOf (A R : List Rn) : Prop := ∃ z, Most A z ∧ MinusOf [⟨1, z⟩] A R
/-- the variable g of the sets: the first k rows are done -/
structure HoI (w3 W : World) (g : Nat) (F H : Nat → Sl) (k : Nat) : Prop where
  s : Sets W g (fun r => if r < k then H r else F r)
  h : ∀ r, r < k → RSrc W (H r).ao (H r).n (H r).cap (H r).L ∧ HoleOf (F r).L (H r).L ∧ ∀ ad, (H r).ao = some ad → ad.block ≠ g
  b : Below w3.heap.size w3 W
theorem HoI.on {w3 W W' : World} {g : Nat} {F H : Nat → Sl} {k : Nat} (I : HoI w3 W g F H k) (hb : Below W.heap.size W W') : HoI w3 W' g F H k :=
  ⟨I.s.below hb, fun r hr => ⟨(I.h r hr).1.below hb, (I.h r hr).2⟩, I.b.trans (hb.mono I.b.size)⟩
theorem HoI.push {w3 W : World} {g : Nat} {F H : Nat → Sl} {k : Nat} (I : HoI w3 W g F H k) (hg : w3.heap.size ≤ g) (s : Sl) (hs : RSrc W s.ao s.n s.cap s.L) (hh : HoleOf (F k).L s.L) (hn : ∀ ad, s.ao = some ad → ad.block ≠ g) (v : Value) (hv : v = slv s) :
    HoI w3 (W.setCell ⟨g, k, none⟩ v) g F (Fset H k s) (k + 1) := by
  have other : ∀ q, q ≠ g → (W.setCell ⟨g, k, none⟩ v).heap[q]? = W.heap[q]? := fun q hq => by
    simp [World.setCell, Array.getElem?_modify, show ¬ g = q by omega]
  refine ⟨(I.s.set k s v hv).congr (fun r _ => ?_), fun r hr => ?_, V.below_setCell I.b (by simpa using hg)⟩
  · by_cases e : r = k
    · subst e; simp [Fset]
    · by_cases h : r < k
      · simp [Fset, e, h, show r < k + 1 by omega]
      · simp [Fset, e, h, show ¬ r < k + 1 by omega]
  · by_cases e : r = k
    · subst e
      rw [Fset_same]
      exact ⟨rsrc_off hs (fun ad h => other _ (hn ad h)), hh, hn⟩
    · rw [Fset_other _ _ _ _ e]
      obtain ⟨h1, h2, h3⟩ := I.h r (by omega)
      exact ⟨rsrc_off h1 (fun ad h => other _ (h3 ad h)), h2, h3⟩
theorem below_setRowEq {w W : World} {g : Nat} {cs : Array Value} (hg : w.heap.size ≤ g) (h : Below w.heap.size w W) : Below w.heap.size w (W.setRow g cs) := below_setRow h hg
set_option maxRecDepth 100000 in
set_option maxHeartbeats 4000000 in
theorem pastHoles_any (a : Pv) (w : World) (hS : PSrc w a) :
    Calls Try.prog 11 #[PV a] w fun e w' => GivesP w w' e (fun P => ∃ C : Nat → List Rn, (∀ r, r < 16 → HoleOf (runsAt a.P r) (C r)) ∧ CanonOf C P) := by
  have b0 := below_new w (.cells (PC a) 25)
  have b1 := below_new (w.alloc (.cells (PC a) 25)) (.cells (PC pv0) 25)
  have hp1 := pbox_new (w.alloc (.cells (PC a) 25)) pv0
  have l1 := run_ldP ((pbox_new w a).below b1).at
  rw [World.size_alloc] at hp1
  have HB1 := hide (b0.trans (b1.mono b0.size))
  have HS := hide (hS.below HB1.out)
  have HP1 := hide hp1
  have HW := hide (wt_one hS)
  clear hS b0 b1 hp1
  go_enter Try.func11, Try.ntmps11
  go_wp2_with fail
  have R := prow_one _ a HS.out
  have bl := below_new ((w.alloc (.cells (PC a) 25)).alloc (.cells (PC pv0) 25)) (.cells (PC a) 25)
  simp only [World.size_alloc] at R
  refine (setsOf_any _ 1 1 [a] _ R HW.out (by omega)).mono ?_
  rintro e w3 ⟨F, rfl, R3, b2⟩
  have HP3 := hide ((HP1.out.below bl).below b2)
  have HB3 := hide (HB1.out.trans ((bl.trans (b2.mono bl.size)).mono HB1.out.size))
  have HR3 := hide R3
  have HZ3 : Hid (w.heap.size + 2 ≤ w3.heap.size) := by have h1 := bl.size; have h2 := b2.size; simp at h1 h2; show _ ≤ _; omega
  clear R bl R3 b2 l1 HP1 HS HB1 HW
  have X4 := sets_new w3 (fun _ => sl0)
  have s4 := run_stA (F' := F) X4
  have X5 := X4.setRow (F' := F)
  have l5 := run_ldA X5
  have HI5 : Hid (HoI w3 ((w3.alloc (.cells (SA fun _ => sl0) 51)).setRow w3.heap.size (SA F)) w3.heap.size F F 0) :=
    ⟨X5.congr (fun r _ => by simp), fun r h => by omega, below_setRowEq (Nat.le_refl _) (below_new w3 _)⟩
  clear X4 X5
  go_wp2_with fail
  clear s4 l5
  go_loopw [11] (fun i wr => ∃ (k : Nat) (H : Nat → Sl), k ≤ 16 ∧ i = .int .i64 k ∧ Hid (HoI w3 wr w3.heap.size F H k)) (fun i _ => 16 - (intOf i).toNat)
  case atStart => exact ⟨0, F, Nat.zero_le _, rfl, HI5⟩
  case round =>
    obtain ⟨k, H, hk, rfl, HI⟩ := hrel
    rename World => w6
    clear HI5
    by_cases hlt : k < 16
    · have hix : (ixA (SAv F) (.int .i64 (k : Int))).run Try.prog w6 = _ := run_idxA F k hlt w6
      have HF6 := hide ((HR3.out.src k hlt).below HI.out.b)
      have HFA : Hid (∀ ad, (F k).ao = some ad → ad.block ≠ w3.heap.size) := fun ad h => by have := HR3.out.hi k hlt ad h; omega
      obtain ⟨sa, sn, sc, hf⟩ : ∃ sa sn sc, (F k).ao = sa ∧ (F k).n = sn ∧ (F k).cap = sc := ⟨_, _, _, rfl, rfl, rfl⟩
      rw [hf.1, hf.2.1, hf.2.2] at hix HF6
      clear hf HFA
      go_wp2_with fail
      refine (last_any sa sn sc (F k).L _ HF6.out).mono ?_
      rintro e w7 ⟨z, rfl, hz, b7⟩
      have HI7 := hide (HI.out.on b7)
      have b8 := below_new w7 (.cells (RC ⟨1, z⟩) 59)
      have HI8 := hide (HI7.out.on b8)
      have HF8 := hide ((HF6.out.below b7).below b8)
      have HL8 := hide (lit_rsrc w7 [⟨1, z⟩] (RC ⟨1, z⟩) rfl 59 1 rfl (by omega))
      have HZ := hide hz
      have HG8 : Hid (w3.heap.size < w7.heap.size) := HI7.out.s.lt
      clear hz b7 b8 HI HF6 HI7 hix
      go_wp2_with fail
      refine (minus_new _ _ 1 1 sn sc [⟨1, z⟩] (F k).L _ HL8.out HF8.out).mono ?_
      rintro e w9 ⟨a9, n9, c9, R, rfl, S9, b9, f9, p9⟩
      have HI9 := hide (HI8.out.on b9)
      have HS9 := hide S9
      have HP9 := hide p9
      have HN9 : Hid (∀ ad, a9 = some ad → ad.block ≠ w3.heap.size) := fun ad h => by have := f9 ad h; have h2 := HG8.out; simp at this; omega
      have q0 : (0 : Int) ≤ (k : Int) := by omega
      have q1 : (k : Int) < 16 := by omega
      have c9' := HI9.out.s.cell k hlt
      have fz := HI9.out.s.frozen k
      clear S9 p9 b9 f9 HL8 HF8 HI8
      go_wp2_with fail
      go_roundw
      case rel => exact ⟨k + 1, Fset H k ⟨a9, n9, c9, R⟩, by omega, by go_num, HI9.out.push (Nat.le_refl _) ⟨a9, n9, c9, R⟩ HS9.out ⟨z, HZ.out, HP9.out⟩ HN9.out _ rfl⟩
      case measure => simp [intOf]; omega
    · obtain rfl : k = 16 := by omega
      have X6 := HI.out.s.congr (G := H) (fun r hr => by simp [hr])
      have l6 := run_ldA X6
      have HB6 := hide HI.out.b
      have HH := hide HI.out.h
      clear X6
      go_wp2_with fail
      refine (canonical_any H _ (fun r hr => (HH.out r hr).1)).mono ?_
      rintro e w8 ⟨p, rfl, S2, n2, b2, c2⟩
      have b36 := HB6.out
      obtain ⟨s1, e1, e2, e3, e4⟩ := past_end (w := w) (((HP3.out.below b36)).below b2) S2 (n2.mono (by have := b36.size; have := HZ3.out; omega)) (HB3.out.trans ((b36.trans (b2.mono b36.size)).mono HB3.out.size)) (by omega)
      have HE1 := hide e1
      have HE2 : Hid (GivesP w (w8.setRow (w.heap.size + 1) (PC p)) (.returned (PV p)) (fun P => ∃ C : Nat → List Rn, (∀ r, r < 16 → HoleOf (runsAt a.P r) (C r)) ∧ CanonOf C P)) := ⟨p, rfl, e2, e3, e4, _, (fun r hr => by rw [← runsOf_one a r, ← HR3.out.eq r hr]; exact (HH.out r hr).2.1), c2⟩
      clear S2 n2 b2 c2 e1 e2 e3 e4 b36 l6
      go_wp2_with fail
      exact bodyPost_ret (v := PV p) (resP Try.results11 rfl HE1.out) rfl HE2.out
end Go.Proofs.Ytlnhafjpmkopgaa
