/- PCa PNm QRn -/
import Derived.Test.YtbmjiedpaffifaaGreatDb12
import Derived.Test.YtbmjiedpaffifaaGreatDb02
import Derived.Test.YtbmjiedpaffifaaGreatDb09
import Derived.Test.YtbmjiedpaffifaaGreatDb13
namespace Go.Proofs.YtbmjiedpaffifaaGreat
open Go.RowKit
attribute [local go_sem ↓] ldP_eq stP_eq ldA_eq stA_eq ldR_eq stR_eq
attribute [local go_sem] zeros_SA cells_SAv zero_PC cells_PV zero_RC cells_RV fold_PC fold_RC PC_size RC_size V.zeros_VC zero_SC build_SC cells_SV fold_SC SC_size
theorem build_PC (vo : Option Addr) (vn vc : Nat) (co : Option Addr) (cn cc : Nat) : ((PC pv0).setIfInBounds 0 (.slice vo vn vc)).setIfInBounds 1 (.slice co cn cc) = #[.slice vo vn vc, .slice co cn cc] := rfl
attribute [local go_sem] build_PC
/-- canonical's variables: the sets, the result, the vector, the cloud so far -/
structure CInv (w W : World) (F : Nat → Sl) (f : Nat → Int) (ao : Option Addr) (cap : Nat) (acc : List Sn) : Prop where
  s : Sets W w.heap.size F
  p : PBox W (w.heap.size + 1) pv0
  v : V.Arr W (w.heap.size + 1 + 1) 113 f
  o : OwnS w.heap.size (w.heap.size + 3) w W ao cap acc
theorem CInv.on {w W W' : World} {F : Nat → Sl} {f : Nat → Int} {ao : Option Addr} {cap : Nat} {acc : List Sn} (I : CInv w W F f ao cap acc) (hb : Below W.heap.size W W') : CInv w W' F f ao cap acc :=
  ⟨I.s.below hb, I.p.below hb, I.v.below hb, I.o.later hb⟩
theorem CInv.push {w W W' : World} {F : Nat → Sl} {f : Nat → Int} {ao ao' : Option Addr} {cap cap' : Nat} {acc acc' : List Sn} (I : CInv w W F f ao cap acc) (O : OwnS w.heap.size (w.heap.size + 3) w W' ao' cap' acc')
    {g : Nat} (hk : ∀ k, k < W.heap.size → (Value.slice ao acc.length cap).ownBlock ≠ some k → W'.heap[k]? = W.heap[k]? ∧ g ≠ k) : CInv w W' F f ao' cap' acc' := by
  have hB := I.o.hB
  have key : ∀ k, k < w.heap.size + 3 → W'.heap[k]? = W.heap[k]? := fun k hlt => (hk k (by omega) (fun e => by have := (I.o.own.lt k e).1; omega)).1
  exact ⟨(key _ (by omega)).trans I.s, (key _ (by omega)).trans I.p, (key _ (by omega)).trans I.v, O⟩
theorem CInv.vset {w W : World} {F : Nat → Sl} {f : Nat → Int} {ao : Option Addr} {cap : Nat} {acc : List Sn} (I : CInv w W F f ao cap acc) (k : Nat) (z : Int) : CInv w (W.setCell ⟨w.heap.size + 1 + 1, k, none⟩ (.int .i64 z)) F (V.fset f k z) ao cap acc := by
  have other : ∀ q, q ≠ w.heap.size + 1 + 1 → (W.setCell ⟨w.heap.size + 1 + 1, k, none⟩ (.int .i64 z)).heap[q]? = W.heap[q]? := fun q hq => by
    simp [World.setCell, Array.getElem?_modify, show ¬ w.heap.size + 1 + 1 = q by omega]
  refine ⟨(other _ (by omega)).trans I.s, (other _ (by omega)).trans I.p, I.v.set k z, ⟨⟨I.o.own.1, ?_⟩, V.below_setCell I.o.below (by simp; omega), by have := I.o.hB; simp [World.setCell]; omega, I.o.hB0⟩⟩
  rcases I.o.own.2 with h | ⟨g, cap2, cur, hv, hbg, hgg, r⟩
  · exact Or.inl h
  · exact Or.inr ⟨g, cap2, cur, hv, hbg, (other g (by omega)).trans hgg, r⟩
theorem CInv.congr {w W : World} {F : Nat → Sl} {f f' : Nat → Int} {ao : Option Addr} {cap : Nat} {acc : List Sn} (I : CInv w W F f ao cap acc) (h : ∀ r, r < 16 → f r = f' r) : CInv w W F f' ao cap acc := ⟨I.s, I.p, I.v.congr h, I.o⟩
def leads (N : Nat → List Rn) (k : Nat) : Nat → Int := fun r => if r < k then leadOf (N r) else 0
theorem tag_take {L : List Rn} {k j : Nat} {x : Rn} (h : L.take (j + 1) = L.take j ++ [x]) : tag k (L.take (j + 1)) = tag k (L.take j) ++ [⟨(k : Int), x.lo, x.hi⟩] := by rw [h]; simp [tag]

end Go.Proofs.YtbmjiedpaffifaaGreat
namespace Go.Proofs.YtbmjiedpaffifaaGreat
open Go.RowKit
attribute [local go_sem ↓] ldP_eq stP_eq ldA_eq stA_eq
attribute [local go_sem] zeros_SA cells_SAv zero_PC cells_PV fold_PC PC_size
theorem fold_PC1 (a : Pv) : Array.foldl (fun cs x => cs.setIfInBounds x.snd x.fst) #[(PC pv0)[0]!, (PC pv0)[1]!] (PC a).zipIdx 0 2 = PC a := rfl
attribute [local go_sem] fold_PC1
/-- one past as a row -/
theorem prow_one (W : World) (a : Pv) (hS : PSrc W a) : PRow (W.alloc (.cells (PC a) 25)) (some ⟨W.heap.size, 0, none⟩) 1 [a] :=
  prow_lit _ _ [a] (PC a) (by simp [pcs]) _ 1 rfl (heap_alloc_new W _) (fun p h => by obtain rfl := List.mem_singleton.1 h; exact hS.below (below_new _ _))
theorem wt_one {W : World} {a : Pv} (hS : PSrc W a) : wt [a] ≤ 8796093022207 := by have h1 := hS.cloud.big; have h2 := hS.cloud.len; simp only [wt]; omega
/-- how many dots: of the sets, each in its form -/
def sumZ (N : Nat → List Rn) : Nat → Int
  | 0 => 0
  | k + 1 => sumZ N k + sz (N k)
def SizeP (G : Nat → List Rn) (z : Int) : Prop := ∃ N, (∀ r, r < 16 → NormOf (G r) (N r)) ∧ z = sumZ N 16
theorem sumZ_bd {N : Nat → List Rn} : ∀ k, (∀ r, r < k → form 1 (N r)) → 0 ≤ sumZ N k ∧ sumZ N k ≤ k * 1000000000
  | 0, _ => by simp [sumZ]
  | k + 1, h => by
    have h1 := sumZ_bd k (fun r hr => h r (by omega))
    have h2 := sz_bd (h k (by omega))
    have h3 : sz (N k) ≤ 1000000000 := by
      rcases h2.2.1 with e | e
      · rw [e]; simp [sz]
      · omega
    rw [sumZ]
    push_cast
    omega
theorem sumZ_congr {N N' : Nat → List Rn} : ∀ k, (∀ r, r < k → N r = N' r) → sumZ N k = sumZ N' k
  | 0, _ => rfl
  | k + 1, h => by rw [sumZ, sumZ, sumZ_congr k (fun r hr => h r (by omega)), h k (by omega)]
theorem SizeP.unique {G G' : Nat → List Rn} {z z' : Int} (h : SizeP G z) (h' : SizeP G' z') (e : ∀ r, r < 16 → ∀ n, mem (G r) n ↔ mem (G' r) n) : z = z' := by
  obtain ⟨N, hN, rfl⟩ := h
  obtain ⟨N', hN', rfl⟩ := h'
  exact sumZ_congr 16 fun r hr => form_unique (Int.le_refl _) (hN r hr).1 (hN' r hr).1 (fun n => ((hN r hr).2 n).trans ((e r hr n).trans ((hN' r hr).2 n).symm))
theorem run_idxA (F : Nat → Sl) (k : Nat) (hk : k < 16) (w : World) : (Instr.index 79 (SAv F) (.int .i64 (k : Int))).run Tryz.prog w = .ok (.slice (F k).ao (F k).n (F k).cap) w := by
  have h1 : 0 ≤ (k : Int) ∧ (k : Int) < 16 := by omega
  have h2 := SA_at F k hk
  have hagg : (isAgg 77).run Tryz.prog w = .ok false w := by
    unfold isAgg
    rw [Sem.run_bind, run_underlying Tryz.underlying77 w]
    rfl
  simp [Instr.index, run_underlying Tryz.underlying79, SAv, asIntOf, Result.andThen, part, hagg, h2, slv]
  omega
def ixA (x i : Value) : Sem Value := Instr.index 79 x i
theorem ixA_eq (x i : Value) : Instr.index 79 x i = ixA x i := rfl
attribute [local go_sem ↓] ixA_eq
theorem SizeP.zero {G : Nat → List Rn} {z : Int} (h : SizeP G z) : z = 0 ↔ ∀ r, r < 16 → ∀ n, ¬ mem (G r) n := by
  obtain ⟨N, hN, rfl⟩ := h
  have key : ∀ k, k ≤ 16 → (sumZ N k = 0 ↔ ∀ r, r < k → N r = []) := by
    intro k
    induction k with
    | zero => intro _; exact ⟨fun _ r h => by omega, fun _ => rfl⟩
    | succ k ih =>
      intro hk
      have h1 := sumZ_bd (N := N) k (fun r hr => (hN r (by omega)).1)
      have h2 := sz_bd (hN k (by omega)).1
      rw [sumZ]
      constructor
      · intro h r hr
        by_cases e : r = k
        · subst e; exact h2.2.2 (by omega)
        · exact (ih (by omega)).1 (by omega) r (by omega)
      · intro h
        rw [(ih (by omega)).2 (fun r hr => h r (by omega)), h k (by omega)]
        rfl
  rw [key 16 (by omega)]
  constructor
  · intro h r hr n hm
    have := ((hN r hr).2 n).2 hm
    rw [h r hr] at this
    exact mem_nil n this
  · intro h r hr
    exact form_empty (Int.le_refl _) (hN r hr).1 (fun n hm => h r hr n (((hN r hr).2 n).1 hm))
end Go.Proofs.YtbmjiedpaffifaaGreat
namespace Go.Proofs.YtbmjiedpaffifaaGreat
open Go.RowKit
attribute [local go_sem ↓] ldP_eq stP_eq ldJ_eq stJ_eq
attribute [local go_sem] zeros_JA cells_JAv zero_PC cells_PV fold_PC PC_size fold_PC1
set_option maxRecDepth 100000 in
set_option maxHeartbeats 400000 in
theorem one_any (a : Pv) (w : World) (hS : PSrc w a) : Calls Tryz.prog 68 #[PV a] w fun e w' => GivesSet w w' e (runsAt a.P) := by
  have b1 := below_new w (.cells (PC a) 25)
  have b2 := below_new (w.alloc (.cells (PC a) 25)) (.cells (JA fun _ => si0) 120)
  have X2 := isets_new (w.alloc (.cells (PC a) 25)) 120 (fun _ => si0)
  rw [World.size_alloc] at X2
  have HXA := hide ((pbox_new w a).below b2)
  have HX2 := hide X2
  have HBK := hide (b1.trans (b2.mono b1.size))
  have HS := hide (hS.below HBK.out)
  clear b1 b2 X2 hS
  obtain ⟨wk, hwk⟩ : ∃ wk, (w.alloc (.cells (PC a) 25)).alloc (.cells (JA fun _ => si0) 120) = wk := ⟨_, rfl⟩
  have HWZ : Hid (wk.heap.size = w.heap.size + 1 + 1) := by show _ = _; rw [← hwk]; simp
  rw [hwk] at HXA HX2 HBK HS
  have l1 := run_ldP HXA.out.at
  have b3 := below_new wk (.cells (PC a) 25)
  have HR := hide (prow_one wk a HS.out)
  have HWT := hide (wt_one HS.out)
  have HB3 := hide (HBK.out.trans (b3.mono HBK.out.size))
  have HX3 := hide (HX2.out.below b3)
  clear b3
  go_enter Tryz.func68, Tryz.ntmps68
  go_wp2_with fail
  clear hwk
  refine (mean_any _ 1 1 [a] _ HR.out HWT.out (by omega)).mono ?_
  rintro e w2 ⟨T, N, rfl, hT, b4⟩
  have HX4 := HX3.out.below b4
  have hst := run_stJ (F' := T) HX4
  have HRes := hide (ISets.setRow (F' := T) HX4)
  have HFin : Hid (GivesSet w (w2.setRow (w.heap.size + 1) (JA T)) (.returned (JAv T)) (runsAt a.P)) := by
    refine ⟨T, N, rfl, fun r hr => ?_, below_setRow (HB3.out.trans (b4.mono HB3.out.size)) (by omega)⟩
    obtain ⟨h1, h2, h3⟩ := hT r hr
    rw [runsOf_one] at h3
    simp only [World.size_alloc] at h2
    have hwz := HWZ.out
    exact ⟨src_off h1 (fun ad h => setRow_other _ _ _ _ (fun e => by have := h2 ad h; omega)), fun ad h => by have := h2 ad h; omega, h3⟩
  clear hT b4 HX4 l1
  go_wp2_with fail
  exact bodyPost_ret (v := JAv T) (resJ Tryz.results68 rfl HRes.out) rfl HFin.out
/-- the form of a set that was handed back -/
theorem canon_of {G N : Nat → List Rn} (h : ∀ r, r < 16 → NormOf (G r) (N r)) {P : Pst} (hP : P = canonP N) : CanonOf G P := ⟨N, h, hP⟩
set_option maxRecDepth 100000 in
set_option maxHeartbeats 400000 in
theorem refNorm_any (a : Pv) (w : World) (hS : PSrc w a) : Calls Tryz.prog 51 #[PV a] w fun e w' => GivesP w w' e (CanonOf (runsAt a.P)) := by
  have b1 := below_new w (.cells (PC a) 25)
  have b2 := below_new (w.alloc (.cells (PC a) 25)) (.cells (PC pv0) 25)
  have X2 := pbox_new (w.alloc (.cells (PC a) 25)) pv0
  rw [World.size_alloc] at X2
  have HXA := hide ((pbox_new w a).below b2)
  have HX2 := hide X2
  have HBK := hide (b1.trans (b2.mono b1.size))
  have HS := hide (hS.below HBK.out)
  clear b1 b2 X2 hS
  obtain ⟨wk, hwk⟩ : ∃ wk, (w.alloc (.cells (PC a) 25)).alloc (.cells (PC pv0) 25) = wk := ⟨_, rfl⟩
  have HWZ : Hid (wk.heap.size = w.heap.size + 1 + 1) := by show _ = _; rw [← hwk]; simp
  rw [hwk] at HXA HX2 HBK HS
  have l1 := run_ldP HXA.out.at
  go_enter Tryz.func51, Tryz.ntmps51
  go_wp2_with fail
  clear hwk
  refine (one_any a _ HS.out).mono ?_
  rintro e w2 ⟨T, N, rfl, hT, b4⟩
  have HT := hide hT
  have HB4 := hide b4
  have HX4 := hide (HX2.out.below b4)
  clear hT b4 l1
  go_wp2_with fail
  refine (refForm_any T N _ (fun r hr => ⟨(HT.out r hr).1, (HT.out r hr).2.2.1⟩)).mono ?_
  rintro e w3 ⟨p, rfl, S3, n3, b5, c5⟩
  have hwz := HWZ.out
  have hsz := HB4.out.size
  obtain ⟨e1, e2, e3, e4, e5⟩ := past_end (w := w) (HX4.out.below b5) S3 (n3.mono (by omega)) (HBK.out.trans ((HB4.out.mono HBK.out.size).trans (b5.mono (Nat.le_trans HBK.out.size hsz)))) (by omega)
  have HRes := hide e2
  have HFin : Hid (GivesP w _ (.returned (PV p)) (CanonOf (runsAt a.P))) := ⟨p, rfl, e3, e4, e5, canon_of (fun r hr => (HT.out r hr).2.2) c5⟩
  clear S3 n3 b5 c5 e2 e3 e4 e5 hwz hsz
  go_wp2_with fail
  exact bodyPost_ret (v := PV p) (resP Tryz.results51 rfl HRes.out) rfl HFin.out
end Go.Proofs.YtbmjiedpaffifaaGreat
