/- LChk IPl LRChk LSome LOwn IEr -/
import Derived.Test.YtphohmoibnoeaaaGreatPb23
import Derived.Test.YtphohmoibnoeaaaGreatPb21
import Derived.Lib.OthersKept
namespace Go.Proofs.YtphohmoibnoeaaaGreat.K
open Go.RowKit
attribute [local go_sem ↓] ld28_eq st28_eq
attribute [local go_sem] zero_EC cells_EV

def okAt (L : List En) (k : Nat) : Bool := ceE (L.getD k en0) == 0 && (decide (k = 0) || ahead (L.getD (k - 1) en0) (L.getD k en0))
def okN (L : List En) (k : Nat) : Bool := (List.range k).all (okAt L)
def chk (L : List En) : Int := if okN L L.length = true then 0 else 1
theorem okN_succ (L : List En) (k : Nat) : okN L (k + 1) = (okN L k && okAt L k) := by unfold okN; rw [List.range_succ, List.all_append]; simp
theorem okN_no (L : List En) (k n : Nat) (h : k < n) (hs : okAt L k = false) : okN L n = false := by
 unfold okN; rw [List.all_eq_false]; exact ⟨k, by simpa using h, by rw [hs]; simp⟩
theorem byD_ahead (x y : En) : decide (0 ≤ byD x y) = !ahead x y := by
 unfold byD ahead or2 cmpI
 by_cases h1 : x.rep < y.rep
 ·simp [h1]
 ·by_cases h2 : y.rep < x.rep
  ·have : ¬ x.rep = y.rep := by omega
   simp [h1, h2, this]
  ·have : x.rep = y.rep := by omega
   by_cases h3 : x.num < y.num
   ·simp [this, h3]
   ·by_cases h4 : y.num < x.num
    ·simp [this, h3, h4]
    ·simp [this, h3, h4]

set_option maxRecDepth 100000 in
set_option maxHeartbeats 1600000 in
theorem lcheck_any (ao : Option Addr) (n cap : Nat) (L : List En) (w : World) (hS : ESrc w ao n cap L) :
  Calls Tryz.prog 34 #[.slice ao n cap] w fun e w' => e = .returned (.int .i64 (chk L)) ∧ Below w.heap.size w w' := by
 have HS := hide hS
 have hn := hS.2.2.2.2
 have HL : Hid (L.length = n) := hS.1
 clear hS
 go_enter Tryz.func34, Tryz.ntmps34
 go_wp2_with fail
 go_loopw [7] (fun i wr => ∃ k : Nat, k ≤ n ∧ i = .int .i64 k ∧ Hid (okN L k = true) ∧ Hid (Below w.heap.size w wr)) (fun i _ => n - (intOf i).toNat)
 case atStart => exact ⟨0, Nat.zero_le _, rfl, rfl, Below.refl _ _⟩
 case round =>
  obtain ⟨k, hk, rfl, HK, HB⟩ := hrel
  by_cases hlt : k < n
  ·obtain ⟨ad, rfl, A0⟩ := (HS.out.below HB.out).at k hlt
   have hld := run_ld28 A0
   obtain ⟨e, He⟩ : ∃ e, Hid (L.getD k en0 = e) := ⟨_, rfl⟩
   have hsk := HS.out.sku k hlt
   rw [He.out] at hld hsk A0
   obtain ⟨w1, hst, X1, B1, Z1⟩ := made wr e wr.heap.size rfl
   have HX := hide X1
   have HB1 := hide B1
   have HSK := hide hsk
   clear X1 B1 hsk A0
   have le : ∀ d os, (ld28 (.pointer (some ⟨wr.heap.size, 0, none⟩))).run Tryz.prog (Sort.grow (redrawn w1 d) os) = .ok (EV e) (Sort.grow (redrawn w1 d) os) := fun d os => run_ld28 (HX.out.below (below_regrown w1 d os)).at
   obtain ⟨c, Hc⟩ : ∃ c, Hid (ceE e = c) := ⟨_, rfl⟩
   have cE : ∀ d os, Calls Tryz.prog 66 #[EV e] (Sort.grow (redrawn w1 d) os) fun x w'' => x = .returned (.int .i64 c) ∧ ∃ p : Regrown, w'' = Sort.grow (redrawn w1 p.d) p.os := fun d os => by
    have := checkEntry_ec e (Sort.grow (redrawn w1 d) os) HSK.out
    rw [Hc.out] at this
    exact Calls.regrown_of this
   by_cases h0 : c = 0
   ·have h0' : (c != 0) = false := by simpa using h0
    by_cases hk0 : k = 0
    ·have HN : Hid (okN L (k + 1) = true) := by show _ = _; rw [okN_succ, HK.out]; unfold okAt; rw [He.out, Hc.out, h0]; simp [hk0]
     subst hk0
     rw [Nat.zero_mul, add_zero] at hld
     clear h0
     go_wp2_with fail
     refine wp_region_quiet_below (by kernel_rfl) (by kernel_rfl) ?_
     repeat (with_reducible (refine wpQuiet_step ?_); intro K hK; go_simp; (try rw [if_neg (by unfold undef; simp)]); first | (with_reducible (refine hK _ ?_); clear hK K) | (apply Exists.intro; refine ⟨fun _ => ?_, hK _ ?_⟩; (go_at_call 66; exact cE _ _); clear hK K))
     with_reducible (refine wpQuiet_nil ?_)
     intro _ hw'
     obtain ⟨⟨dq, osq⟩, hw''⟩ := hw'
     subst hw''
     have HBE : Hid (Below w.heap.size w (Sort.grow (redrawn w1 dq) osq)) := (HB.out.trans (HB1.out.mono HB.out.size)).trans ((below_regrown w1 dq osq).mono (Nat.le_trans HB.out.size (by rw [Z1]; omega)))
     go_wp2_with fail
     go_roundw
     case rel => exact ⟨0 + 1, by omega, by go_num, HN, HBE⟩
     case measure => simp [intOf]; omega
    ·have hk1 : decide ((0 : Int) < (k : Int)) = true := decide_eq_true (by omega)
     have hk2 : 0 < k := by omega
     obtain ⟨j, hj⟩ : ∃ j, k - 1 = j := ⟨_, rfl⟩
     have hz : IntKind.i64.wrap ((k : Int) - 1) = (j : Int) := by rw [IntKind.wrap_i64]; omega
     have hjn : j < n := by omega
     have A1 := ((HS.out.below HB.out).2.2.1 ad rfl j (by omega)).on HB1.out
     obtain ⟨e1, He1⟩ : ∃ e1, Hid (L.getD j en0 = e1) := ⟨_, rfl⟩
     rw [He1.out] at A1
     have HA1 := hide A1
     clear A1
     have l1 : ∀ d os, (ld28 (.pointer (some (ad.add (j * 4))))).run Tryz.prog (Sort.grow (redrawn w1 d) os) = .ok (EV e1) (Sort.grow (redrawn w1 d) os) := fun d os => run_ld28 (HA1.out.on (below_regrown w1 d os))
     obtain ⟨q, Hq⟩ : ∃ q, Hid (byD e1 e = q) := ⟨_, rfl⟩
     have cD : ∀ d os, Calls Tryz.prog 67 #[EV e1, EV e] (Sort.grow (redrawn w1 d) os) fun x w'' => x = .returned (.int .i64 q) ∧ ∃ p : Regrown, w'' = Sort.grow (redrawn w1 p.d) p.os := fun d os => by
      have := byDot_ec e1 e (Sort.grow (redrawn w1 d) os)
      rw [Hq.out] at this
      exact Calls.regrown_of this
     have hq := byD_ahead e1 e
     rw [Hq.out] at hq
     have hok : okAt L k = ahead e1 e := by unfold okAt; rw [He.out, Hc.out, h0, hj, He1.out]; simp [hk0]
     clear h0 hk0
     by_cases h1 : 0 ≤ q
     ·have HF : Hid (chk L = 1) := by
       show _ = _; unfold chk; rw [okN_no L k _ (by rw [HL.out]; exact hlt) (by rw [hok]; simpa [h1] using hq)]; rfl
      clear hq hok
      go_wp2_with fail
      refine wp_region_quiet_below (by kernel_rfl) (by kernel_rfl) ?_
      repeat (with_reducible (refine wpQuiet_step ?_); intro K hK; go_simp; (try rw [if_neg (by unfold undef; simp)]); first | (with_reducible (refine hK _ ?_); clear hK K) | (apply Exists.intro; refine ⟨fun _ => ?_, hK _ ?_⟩; (first | (go_at_call 66; exact cE _ _) | (go_at_call 67; exact cD _ _)); clear hK K))
      with_reducible (refine wpQuiet_nil ?_)
      intro _ hw'
      obtain ⟨⟨dq, osq⟩, hw''⟩ := hw'
      subst hw''
      have HBE : Hid (Below w.heap.size w (Sort.grow (redrawn w1 dq) osq)) := (HB.out.trans (HB1.out.mono HB.out.size)).trans ((below_regrown w1 dq osq).mono (Nat.le_trans HB.out.size (by rw [Z1]; omega)))
      go_wp2_with fail
      go_ret
      exact ⟨ret_int HF.out.symm, HBE.out⟩
     ·have HN : Hid (okN L (k + 1) = true) := by show _ = _; rw [okN_succ, HK.out, hok]; simpa [h1] using hq
      clear hq hok
      go_wp2_with fail
      refine wp_region_quiet_below (by kernel_rfl) (by kernel_rfl) ?_
      repeat (with_reducible (refine wpQuiet_step ?_); intro K hK; go_simp; (try rw [if_neg (by unfold undef; simp)]); first | (with_reducible (refine hK _ ?_); clear hK K) | (apply Exists.intro; refine ⟨fun _ => ?_, hK _ ?_⟩; (first | (go_at_call 66; exact cE _ _) | (go_at_call 67; exact cD _ _)); clear hK K))
      with_reducible (refine wpQuiet_nil ?_)
      intro _ hw'
      obtain ⟨⟨dq, osq⟩, hw''⟩ := hw'
      subst hw''
      have HBE : Hid (Below w.heap.size w (Sort.grow (redrawn w1 dq) osq)) := (HB.out.trans (HB1.out.mono HB.out.size)).trans ((below_regrown w1 dq osq).mono (Nat.le_trans HB.out.size (by rw [Z1]; omega)))
      go_wp2_with fail
      go_roundw
      case rel => exact ⟨k + 1, by omega, by go_num, HN, HBE⟩
      case measure => simp [intOf]; omega
   ·have h0' : (c != 0) = true := by simpa using h0
    have HF : Hid (chk L = 1) := by
     show _ = _; unfold chk; rw [okN_no L k _ (by rw [HL.out]; exact hlt) (by unfold okAt; rw [He.out, Hc.out]; simp [h0])]; rfl
    clear h0
    go_wp2_with fail
    refine wp_region_quiet_below (by kernel_rfl) (by kernel_rfl) ?_
    repeat (with_reducible (refine wpQuiet_step ?_); intro K hK; go_simp; (try rw [if_neg (by unfold undef; simp)]); first | (with_reducible (refine hK _ ?_); clear hK K) | (apply Exists.intro; refine ⟨fun _ => ?_, hK _ ?_⟩; (go_at_call 66; exact cE _ _); clear hK K))
    with_reducible (refine wpQuiet_nil ?_)
    intro _ hw'
    obtain ⟨⟨dq, osq⟩, hw''⟩ := hw'
    subst hw''
    have HBE : Hid (Below w.heap.size w (Sort.grow (redrawn w1 dq) osq)) := (HB.out.trans (HB1.out.mono HB.out.size)).trans ((below_regrown w1 dq osq).mono (Nat.le_trans HB.out.size (by rw [Z1]; omega)))
    go_wp2_with fail
    go_ret
    exact ⟨ret_int HF.out.symm, HBE.out⟩
  ·obtain rfl : k = n := by omega
   have HF : Hid (chk L = 0) := by show _ = _; unfold chk; rw [HL.out, HK.out]; rfl
   go_wp2_with fail
   go_ret
   exact ⟨ret_int HF.out.symm, HB.out⟩
end Go.Proofs.YtphohmoibnoeaaaGreat.K
namespace Go.Proofs.YtphohmoibnoeaaaGreat
open Go.RowKit

def txB (s : ByteArray) : List Int := U.numB s.size ++ U.strB s
def pTx (most : Int) (Z : List Int) : Option (ByteArray × List Int) := if U.pcE Z most = 0 then some (strOfNums ((Z.drop (U.nmK Z)).take (U.nmV Z)), Z.drop (U.nmK Z + U.nmV Z)) else none
theorem strB_str (s : ByteArray) : strOfNums (U.strB s) = s := by
 unfold strOfNums U.strB
 simp [List.map_map, Function.comp_def]
theorem strB_of {Z : List Int} (h : U.Oc Z) : U.strB (strOfNums Z) = Z := by
 have hx : ∀ x ∈ Z, 0 ≤ x ∧ x ≤ 255 := fun x hx => by
  obtain ⟨t, ht, rfl⟩ := List.mem_iff_getElem.1 hx
  have := h t
  rw [List.getD_eq_getElem?_getD, List.getElem?_eq_getElem ht] at this
  exact this
 unfold strOfNums U.strB
 simp only [List.map_map]
 conv => rhs; rw [← List.map_id Z]
 refine List.map_congr_left fun x h1 => ?_
 have := hx x h1
 simp only [Function.comp, id]
 rw [UInt8.toNat_ofNat']
 omega
theorem strS_len (Z : List Int) : (strOfNums Z).size = Z.length := by
 show (strOfNums Z).data.toList.length = _
 unfold strOfNums
 simp
theorem strB_ob (s : ByteArray) : ∀ x ∈ U.strB s, 0 ≤ x ∧ x ≤ 255 := fun x hx => by
 unfold U.strB at hx
 obtain ⟨b, -, rfl⟩ := List.mem_map.1 hx
 have := b.toNat_lt
 omega
theorem pTx_to {most : Int} {s : ByteArray} (R : List Int) (h : (s.size : Int) ≤ most) (hm : s.size ≤ 9223372036854775807) : pTx most (txB s ++ R) = some (s, R) := by
 have e : txB s ++ R = U.numB s.size ++ (U.strB s ++ R) := by unfold txB; rw [List.append_assoc]
 have e1 : U.nmE (U.numB s.size ++ (U.strB s ++ R)) most = 0 := by rw [U.nmE_numB _ _ _ hm, if_neg (by omega)]
 have ek := U.nmK_numB s.size (U.strB s ++ R) hm
 have ev := U.nmV_numB s.size (U.strB s ++ R) hm
 have hl := U.strB_length s
 have e2 : U.pcE (U.numB s.size ++ (U.strB s ++ R)) most = 0 := by
  unfold U.pcE
  rw [e1, ek, ev, if_neg (by simp), if_neg (by simp only [List.length_append]; omega)]
 unfold pTx
 rw [e, if_pos e2, ek, ev, List.drop_left, ← hl, List.take_left, strB_str, ← List.drop_drop, List.drop_left, List.drop_left]
theorem pTx_of {most : Int} {Z R : List Int} {s : ByteArray} (hZ : U.Oc Z) (h : pTx most Z = some (s, R)) : Z = txB s ++ R ∧ (s.size : Int) ≤ most ∧ U.Oc R := by
 unfold pTx at h
 split at h
 ·rename_i h0
  obtain ⟨hn, hl⟩ := U.pcE_ok h0
  simp only [Option.some.injEq, Prod.mk.injEq] at h
  obtain ⟨rfl, rfl⟩ := h
  have hp : U.pNum most Z = some (U.nmV Z, Z.drop (U.nmK Z)) := by unfold U.pNum; rw [if_pos hn]
  obtain ⟨e1, e2, e3, -⟩ := U.pNum_of hZ hp
  have hlen : ((Z.drop (U.nmK Z)).take (U.nmV Z)).length = U.nmV Z := by rw [List.length_take, List.length_drop]; omega
  have ho : U.Oc ((Z.drop (U.nmK Z)).take (U.nmV Z)) := fun t => by
   rw [List.getD_eq_getElem?_getD, List.getElem?_take]
   split
   ·rw [← List.getD_eq_getElem?_getD]; exact e3 t
   ·exact ⟨by decide, by decide⟩
  refine ⟨?_, by rw [strS_len, hlen]; exact e2, hZ.drop _⟩
  unfold txB
  rw [strS_len, hlen, strB_of ho, List.append_assoc, ← List.drop_drop, List.take_append_drop]
  exact e1
 ·cases h
def entB : (Nat → Int) → Int → List K.En → List Int
 | _, _, [] => []
 | T, r0, e :: t => nB (e.rep - r0) ++ (nB (e.num - (T e.rep.toNat + 1)) ++ (txB e.sku ++ (nB (e.qty - 1) ++ entB (upd T e.rep.toNat e.num) e.rep t)))
def entsB (L : List K.En) : List Int := U.numB L.length ++ entB (fun _ => 0) 0 L
def EOk : (Nat → Int) → Int → List K.En → Prop
 | _, _, [] => True
 | T, r0, e :: t => (r0 ≤ e.rep ∧ 0 ≤ e.rep ∧ e.rep ≤ 15) ∧ (T e.rep.toNat + 1 ≤ e.num ∧ e.num ≤ 1000000000) ∧ e.sku.size ≤ 24 ∧ (1 ≤ e.qty ∧ e.qty ≤ 1000000) ∧ EOk (upd T e.rep.toNat e.num) e.rep t
def rdEnt : Nat → (Nat → Int) → Int → List Int → Option (List K.En × List Int)
 | 0, _, _, Z => some ([], Z)
 | n + 1, T, r0, Z =>
  match plG 1 T r0 Z with
  | none => none
  | some (a, b, Z1) =>
   match pTx 24 Z1 with
   | none => none
   | some (s, Z2) =>
    match U.pNum 999999 Z2 with
    | none => none
    | some (q, Z3) =>
     match rdEnt n (upd T a.toNat b) a Z3 with
     | none => none
     | some (L, R) => some (⟨a, b, s, 1 + (q : Int)⟩ :: L, R)
def rdEnts (Z : List Int) : Option (List K.En × List Int) :=
 match U.pCnt 5 Z with
 | none => none
 | some (n, Z1) => rdEnt n (fun _ => 0) 0 Z1
theorem plG_to {gap : Int} {T : Nat → Int} {r0 rep num : Int} (R : List Int) (hg : 1 ≤ gap ∧ gap ≤ 2) (h0 : 0 ≤ r0) (h1 : r0 ≤ rep) (h2 : rep ≤ 15) (h3 : T rep.toNat + gap ≤ num) (h4 : num ≤ 1000000000) (hT : 0 ≤ T rep.toNat) : plG gap T r0 (nB (rep - r0) ++ (nB (num - (T rep.toNat + gap)) ++ R)) = some (rep, num, R) := by
 have a1 : r0 + (((rep - r0).toNat : Nat) : Int) = rep := by omega
 have a2 : T rep.toNat + gap + (((num - (T rep.toNat + gap)).toNat : Nat) : Int) = num := by omega
 unfold plG nB
 rw [U.pNum_to _ (by omega) (by omega)]
 simp only [a1]
 rw [U.pNum_to _ (by omega) (by omega)]
 simp only [a2]
theorem plG_of {gap : Int} {T : Nat → Int} {r0 a b : Int} {Z R : List Int} (hZ : U.Oc Z) (h0 : 0 ≤ r0) (h : plG gap T r0 Z = some (a, b, R)) : Z = nB (a - r0) ++ (nB (b - (T a.toNat + gap)) ++ R) ∧ (r0 ≤ a ∧ 0 ≤ a ∧ a ≤ 15) ∧ (T a.toNat + gap ≤ b ∧ b ≤ 1000000000) ∧ U.Oc R := by
 unfold plG at h
 cases h1 : U.pNum (15 - r0) Z with
 | none => rw [h1] at h; cases h
 | some y =>
  obtain ⟨u, Z1⟩ := y
  rw [h1] at h
  simp only at h
  obtain ⟨e1, l1, o1, -⟩ := U.pNum_of hZ h1
  cases h2 : U.pNum (1000000000 - (T (r0 + u).toNat + gap)) Z1 with
  | none => rw [h2] at h; cases h
  | some y =>
   obtain ⟨v, Z2⟩ := y
   rw [h2] at h
   simp only [Option.some.injEq, Prod.mk.injEq] at h
   obtain ⟨rfl, rfl, rfl⟩ := h
   obtain ⟨e2, l2, o2, -⟩ := U.pNum_of o1 h2
   refine ⟨?_, by omega, by omega, o2⟩
   unfold nB
   rw [show (r0 + (u : Int) - r0).toNat = u by omega, show (T (r0 + (u : Int)).toNat + gap + (v : Int) - (T (r0 + (u : Int)).toNat + gap)).toNat = v by omega, ← e2]
   exact e1
theorem rdEnt_to : ∀ (L : List K.En) (T : Nat → Int) (r0 : Int) (R : List Int), 0 ≤ r0 → EOk T r0 L → (∀ k, 0 ≤ T k) → rdEnt L.length T r0 (entB T r0 L ++ R) = some (L, R)
 | [], _, _, R, _, _, _ => rfl
 | e :: t, T, r0, R, h0, h, hT => by
  obtain ⟨⟨h1, h2, h3⟩, ⟨h4, h5⟩, h6, ⟨h7, h8⟩, h9⟩ := h
  have hTs := hT e.rep.toNat
  have eq : entB T r0 (e :: t) ++ R = nB (e.rep - r0) ++ (nB (e.num - (T e.rep.toNat + 1)) ++ (txB e.sku ++ (U.numB (e.qty - 1).toNat ++ (entB (upd T e.rep.toNat e.num) e.rep t ++ R)))) := by
   simp only [entB, nB, List.append_assoc]
  show rdEnt (t.length + 1) T r0 _ = _
  rw [eq]
  unfold rdEnt
  rw [plG_to _ (by omega) h0 h1 h3 h4 h5 hTs]
  simp only
  rw [pTx_to _ (by omega) (by omega)]
  simp only
  rw [U.pNum_to _ (by omega) (by omega)]
  simp only
  rw [rdEnt_to t _ _ R h2 h9 (fun k => by unfold upd; split <;> first | omega | exact hT k)]
  simp only [Option.some.injEq, Prod.mk.injEq, List.cons.injEq, and_true]
  obtain ⟨a, b, s, q⟩ := e
  simp only [K.En.mk.injEq, true_and]
  have h7 : 1 ≤ q := h7
  show 1 + (((q - 1).toNat : Nat) : Int) = q
  omega
theorem rdEnt_of : ∀ (n : Nat) {T : Nat → Int} {r0 : Int} {Z R : List Int} {L : List K.En}, U.Oc Z → 0 ≤ r0 → rdEnt n T r0 Z = some (L, R) → Z = entB T r0 L ++ R ∧ L.length = n ∧ U.Oc R ∧ EOk T r0 L
 | 0, T, r0, Z, R, L, hZ, _, h => by
  unfold rdEnt at h
  simp only [Option.some.injEq, Prod.mk.injEq] at h
  obtain ⟨rfl, rfl⟩ := h
  exact ⟨rfl, rfl, hZ, trivial⟩
 | n + 1, T, r0, Z, R, L, hZ, h0, h => by
  unfold rdEnt at h
  cases h1 : plG 1 T r0 Z with
  | none => rw [h1] at h; cases h
  | some y =>
   obtain ⟨a, b, Z1⟩ := y
   rw [h1] at h
   simp only at h
   obtain ⟨e1, l1, l1', o1⟩ := plG_of hZ h0 h1
   cases h2 : pTx 24 Z1 with
   | none => rw [h2] at h; cases h
   | some y =>
    obtain ⟨s, Z2⟩ := y
    rw [h2] at h
    simp only at h
    obtain ⟨e2, l2, o2⟩ := pTx_of o1 h2
    cases h3 : U.pNum 999999 Z2 with
    | none => rw [h3] at h; cases h
    | some y =>
     obtain ⟨q, Z3⟩ := y
     rw [h3] at h
     simp only at h
     obtain ⟨e3, l3, o3, -⟩ := U.pNum_of o2 h3
     cases h4 : rdEnt n (upd T a.toNat b) a Z3 with
     | none => rw [h4] at h; cases h
     | some y =>
      obtain ⟨M, R'⟩ := y
      rw [h4] at h
      simp only [Option.some.injEq, Prod.mk.injEq] at h
      obtain ⟨rfl, rfl⟩ := h
      obtain ⟨f1, f2, f3, f4⟩ := rdEnt_of n o3 l1.2.1 h4
      refine ⟨?_, by simp [f2], f3, l1, l1', (by show s.size ≤ 24; omega), ⟨(by show (1 : Int) ≤ 1 + (q : Int); omega), (by show 1 + (q : Int) ≤ 1000000; omega)⟩, f4⟩
      simp only [entB, List.append_assoc]
      rw [← f1, show nB (1 + (q : Int) - 1) = U.numB q by unfold nB; congr 1; omega, ← e3, ← e2]
      exact e1
theorem entB_len : ∀ (L : List K.En) (T : Nat → Int) (r0 : Int), EOk T r0 L → (∀ e ∈ L, 1 ≤ e.sku.size) → 5 * L.length ≤ (entB T r0 L).length
 | [], _, _, _, _ => Nat.zero_le _
 | e :: t, T, r0, h, hs => by
  have ih := entB_len t (upd T e.rep.toNat e.num) e.rep h.2.2.2.2 (fun x hx => hs x (List.mem_cons_of_mem _ hx))
  have h1 := numB_pos (e.rep - r0).toNat
  have h2 := numB_pos (e.num - (T e.rep.toNat + 1)).toNat
  have h3 := numB_pos e.sku.size
  have h4 := numB_pos (e.qty - 1).toNat
  have h5 := U.strB_length e.sku
  have h6 := hs e List.mem_cons_self
  simp only [entB, nB, txB, List.length_append, List.length_cons]
  omega
theorem eOk_room : ∀ (L : List K.En) (T : Nat → Int) (r0 : Int), 0 ≤ r0 → r0 ≤ 15 → EOk T r0 L → (∀ k, 0 ≤ T k ∧ T k ≤ 1000000000) → r0 * 1000000001 + T r0.toNat + L.length ≤ 16000000015
 | [], T, r0, h0, h1, _, hT => by
  have := hT r0.toNat
  simp only [List.length_nil]
  omega
 | s :: t, T, r0, h0, h1, h, hT => by
  obtain ⟨⟨a1, a2, a3⟩, ⟨a4, a5⟩, -, -, a7⟩ := h
  have hs := hT s.rep.toNat
  have h0' := hT r0.toNat
  have ih := eOk_room t (upd T s.rep.toNat s.num) s.rep a2 a3 a7 (fun k => by unfold upd; split <;> first | omega | exact hT k)
  have e : upd T s.rep.toNat s.num s.rep.toNat = s.num := by unfold upd; rw [if_pos rfl]
  rw [e] at ih
  simp only [List.length_cons]
  by_cases er : s.rep = r0
  ·rw [er] at ih a4; omega
  ·omega
theorem ce_zero {e : K.En} (h : K.ceE e = 0) : (0 ≤ e.rep ∧ e.rep ≤ 15) ∧ (1 ≤ e.num ∧ e.num ≤ 1000000000) ∧ K.good e.sku.data.toList = true ∧ (1 ≤ e.qty ∧ e.qty ≤ 1000000) := by
 unfold K.ceE at h
 split at h
 ·cases h
 ·split at h
  ·cases h
  ·split at h
   ·cases h
   ·split at h
    ·cases h
    ·rename_i a b c d
     have a : K.isR e.rep = true := by simpa using a
     simp [K.isR] at a
     have c : K.good e.sku.data.toList = true := by simpa using c
     exact ⟨by omega, by omega, c, by omega⟩
end Go.Proofs.YtphohmoibnoeaaaGreat
namespace Go.Proofs.YtphohmoibnoeaaaGreat.K
open Go.RowKit
attribute [local go_sem ↓] ld28_eq st28_eq
attribute [local go_sem] zero_EC cells_EV

def DC (e : En) : Array Value := #[.int .i64 e.rep, .int .i64 e.num]
def ld26 (v : Value) : Sem Value := Instr.loadAt 55 v
theorem ld26_eq (v : Value) : Instr.loadAt 55 v = ld26 v := rfl
attribute [local go_sem ↓] ld26_eq
theorem size26 : (Tryz.prog.info? 55).map (·.size) = some 2 := by kernel_rfl
theorem run_ld26 {w : World} {p : Addr} {e : En} (A : EnAt w p e) : (ld26 (.pointer (some p))).run Tryz.prog w = .ok (.agg (DC e)) w := by
 have hl := run_loadCells_list (P := Tryz.prog) (w := w) p (DC e).toList (fun j v hv => by
  match j, hv with
  | 0, hv => cases hv; rw [add_zero]; exact A.c0
  | 1, hv => cases hv; exact A.c1
  | j + 2, hv => simp [DC] at hv)
 unfold ld26
 simp only [Instr.loadAt, Instr.sureAddr, Sem.run_bind, Sem.run_pure, Result.andThen]
 cases hq : Tryz.prog.info? 55 with
 | none => have := size26; simp [hq] at this
 | some x =>
  have hs : x.size = 2 := by have := size26; simpa [hq] using this
  have hagg : (isAgg 55).run Tryz.prog w = .ok true w := by
   unfold isAgg
   rw [Sem.run_bind, run_underlying Tryz.underlying55 w]
   rfl
  have e4 : (DC e).toList.length = 2 := rfl
  rw [e4] at hl
  simp [loadVar, Sem.run_bind, hagg, sizeOf, typeInfo, hq, hs, hl]

end Go.Proofs.YtphohmoibnoeaaaGreat.K
namespace Go.Proofs.YtphohmoibnoeaaaGreat.K
open Go.RowKit

abbrev bA : ByteArray := ⟨#[65]⟩
abbrev bB : ByteArray := ⟨#[66]⟩
def someL : List En := [⟨0, 3, bA, 5⟩, ⟨1, 1, bB, 2⟩, ⟨1, 4, bA, 1⟩]
def GivesE (w w' : World) (e : Ending) (L : List En) : Prop := ∃ ao n c, e = .returned (.slice ao n c) ∧ ESrc w' ao n c L ∧ Below w.heap.size w w' ∧ ∀ ad, ao = some ad → w.heap.size ≤ ad.block
end Go.Proofs.YtphohmoibnoeaaaGreat.K
namespace Go.Proofs.YtphohmoibnoeaaaGreat.K
open Go.RowKit

def ecs (L : List En) : List Value := (L.map (fun e => (EC e).toList)).flatten
theorem ecs_append (L R : List En) : ecs (L ++ R) = ecs L ++ ecs R := by simp [ecs]
theorem ecs_one (e : En) : ecs [e] = (EC e).toList := by simp [ecs]
theorem ecs_at (L : List En) (t j : Nat) (ht : t < L.length) (hj : j < 4) : (ecs L)[t * 4 + j]? = (EC (L.getD t en0)).toList[j]? := by
 induction L generalizing t with
 | nil => simp at ht
 | cons a L ih =>
  have e : ecs (a :: L) = (EC a).toList ++ ecs L := rfl
  cases t with
  | zero => rw [e, List.getElem?_append_left (by simp [EC]; omega)]; simp [List.getD]
  | succ t =>
   rw [e, List.getElem?_append_right (by simp [EC]; omega)]
   have h := ih t (by simpa using ht)
   have e4 : (t + 1) * 4 + j - (EC a).toList.length = t * 4 + j := by simp [EC]; omega
   rw [e4, h]; simp [List.getD]
theorem info28 : (Tryz.prog.info? 57).map (fun i => (i.zero, i.size, i.bytes)) = some (some (.agg #[.int .i64 0, .int .i64 0, .string ⟨#[]⟩, .int .i64 0]), 4, 40) := by kernel_rfl

structure OwnE (B0 B : Nat) (w w' : World) (ao : Option Addr) (cap : Nat) (acc : List En) : Prop where
 own : w'.ownsRow B 57 4 (.slice ao acc.length cap) acc.length (ecs acc)
 below : Below B0 w w'
 hB : B ≤ w'.heap.size
 hB0 : B0 ≤ B
theorem OwnE.nil {B0 B : Nat} {w w' : World} (hb : Below B0 w w') (hB : B ≤ w'.heap.size) (h0 : B0 ≤ B) : OwnE B0 B w w' none 0 [] :=
 ⟨World.ownsRow_nil _ _ _ _, hb, hB, h0⟩
theorem OwnE.append {B0 B : Nat} {w w' : World} {ao : Option Addr} {cap : Nat} {acc : List En} (O : OwnE B0 B w w' ao cap acc) (e : En) (C : Array Value) (hC : C = EC e) (hlen : acc.length < 3518437208883)
  {ops : Array Oper} {rest : List Oper} {o : Oper} {a : Act} {Q : Exit → Act → World → Prop} (hgd : o.guard = none) (s x : Operand) (ho : o.op = .call { callee := .builtin .append, args := #[s, x], argTypes := #[26, 26] })
  (n : Nat) (hn : acc.length = n) (hs : a.eval s = .slice ao n cap) (hx : a.eval x = .slice (some ⟨w'.heap.size, 0, none⟩) 1 1)
  (hK : ∀ (g cap2 : Nat) (w2 : World), OwnE B0 B w w2 (some ⟨g, 0, none⟩) cap2 (acc ++ [e]) → (∀ k, k < B → w2.heap[k]? = w'.heap[k]?) → wpList Tryz.prog ops Q rest (a.put o.dst (.slice (some ⟨g, 0, none⟩) (n + 1) cap2)) w2) :
  wpList Tryz.prog ops Q (o :: rest) a (w'.alloc (.cells C 57)) := by
 subst hn hC
 obtain ⟨i0, hi, hz0, hz1, hz2⟩ := info_parts info28
 have hB := O.hB
 have hB0 := O.hB0
 refine wpList_append_own _ hgd s x 26 ho B 57 i0 (.agg #[.int .i64 0, .int .i64 0, .string ⟨#[]⟩, .int .i64 0]) 4 40 Tryz.underlying26 hi hz0 hz1 hz2 rfl (by decide) _ acc.length (ecs acc) hs (O.own.alloc _) ⟨w'.heap.size, 0, none⟩ 1 1 (EC e).toList hx (by simp [EC]) ?_ ?_ (by unfold maxLen; omega) (by omega) (by simp; omega) ?_
 ·intro j u hj
  rw [Addr.add_lit, Nat.zero_add, World.cell?_alloc_new]
  simpa using hj
 ·intro u hu
  exact EC_one e u hu
 ·intro v' w2 hown hgrow _
  rcases hown.2 with ⟨h0, h00⟩ | ⟨g, cap2, cur, hv, hbg, hgg, hnc, hcm, hcsz, htake⟩
  ·omega
  ·subst hv
   have hrow : ∀ k, (Value.slice ao acc.length cap).ownBlock = some k → B ≤ k := fun k hk => (O.own.lt k hk).1
   have hsz := hgrow.size
   rw [World.size_alloc] at hsz
   refine hK g cap2 w2 ⟨?_, (O.below.alloc (by omega) _).grown hgrow (by simp; omega) (fun k hk => by have := hrow k hk; omega), by omega, hB0⟩ (fun k hk => ?_)
   ·rw [List.length_append, ecs_append, ecs_one]; exact hown
   ·rw [hgrow.block k (by simp; omega) (fun e => by have := hrow k e.symm; omega)]
    exact Below.heap_alloc _ _ _ (by omega)
theorem OwnE.later {B0 B : Nat} {w w' w2 : World} {ao : Option Addr} {cap : Nat} {acc : List En} (O : OwnE B0 B w w' ao cap acc) (hb : Below w'.heap.size w' w2) : OwnE B0 B w w2 ao cap acc := by
 refine ⟨⟨O.own.1, ?_⟩, O.below.trans (hb.mono (Nat.le_trans O.hB0 O.hB)), Nat.le_trans O.hB hb.size, O.hB0⟩
 rcases O.own.2 with h | ⟨g, cap2, cur, hv, hbg, hgg, r⟩
 ·exact Or.inl h
 ·exact Or.inr ⟨g, cap2, cur, hv, hbg, (hb.block g (Array.getElem?_eq_some_iff.1 hgg).1).trans hgg, r⟩
theorem OwnE.src {B0 B : Nat} {w w' : World} {ao : Option Addr} {cap : Nat} {acc : List En} (O : OwnE B0 B w w' ao cap acc) (hs : ∀ e ∈ acc, e.sku.size ≤ maxLen) (hl : acc.length ≤ 3518437208883) : ESrc w' ao acc.length cap acc ∧ ∀ ad, ao = some ad → B ≤ ad.block := by
 rcases O.own.2 with ⟨h0, h00⟩ | ⟨g, cap2, cur, hv, hbg, hgg, hnc, hcm, hcsz, htake⟩
 ·simp only [Value.slice.injEq] at h0
  obtain ⟨rfl, e0, rfl⟩ := h0
  exact ⟨⟨rfl, fun _ => ⟨h00, rfl⟩, fun ad h => (by cases h), hs, hl⟩, fun ad h => (by cases h)⟩
 ·simp only [Value.slice.injEq, true_and] at hv
  obtain ⟨rfl, rfl⟩ := hv
  have cell : ∀ t j, t < acc.length → j < 4 → w'.cell? ⟨g, t * 4 + j, none⟩ = (EC (acc.getD t en0)).toList[j]? := fun t j ht hj => by
   rw [O.own.cellAt (t * 4 + j) (by omega), ecs_at _ t j ht hj]
  refine ⟨⟨rfl, fun h => (by cases h), fun ad h t ht => ?_, hs, hl⟩, fun ad h => by obtain rfl := Option.some.inj h; exact hbg⟩
  obtain rfl := Option.some.inj h
  refine ⟨?_, ?_, ?_, ?_⟩
  ·rw [Addr.add_lit, Nat.zero_add]; exact cell t 0 ht (by omega)
  ·rw [Addr.add_lit, Addr.add_lit, Nat.zero_add]; exact cell t 1 ht (by omega)
  ·rw [Addr.add_lit, Addr.add_lit, Nat.zero_add]; exact cell t 2 ht (by omega)
  ·rw [Addr.add_lit, Addr.add_lit, Nat.zero_add]; exact cell t 3 ht (by omega)
end Go.Proofs.YtphohmoibnoeaaaGreat.K
namespace Go.Proofs.YtphohmoibnoeaaaGreat.E
open Go.RowKit
variable {w w' w2 : World} {g : Nat}
def BR (w : World) (ao : Option Addr) (n cap : Nat) (Z : List K.En) : Prop := w.ownsRow 0 57 4 (.slice ao n cap) n (K.ecs Z)
theorem ecs_len4 (Z : List K.En) : (K.ecs Z).length = Z.length * 4 := by induction Z with
 | nil => rfl
 | cons a t ih => simp [K.ecs, K.EC] at ih ⊢; omega
theorem BR.len {ao : Option Addr} {n cap : Nat} {Z : List K.En} (h : BR w ao n cap Z) : Z.length = n := by
 have := h.1
 rw [ecs_len4] at this
 omega
theorem BR.nil (w : World) : BR w none 0 0 [] := World.ownsRow_nil _ _ _ _
theorem BR.out {n : Nat} {Z : List K.En} {v : Value} (h : w.ownsRow 0 57 4 v n (K.ecs Z)) : ∃ ao cap, v = .slice ao n cap ∧ BR w ao n cap Z := by
 rcases h.2 with ⟨h0, h00⟩ | ⟨q, cap2, cur, hv, r⟩
 ·subst h0 h00
  exact ⟨none, 0, rfl, h⟩
 ·subst hv
  exact ⟨_, _, rfl, h⟩
theorem BR.keep {ao : Option Addr} {n cap : Nat} {Z : List K.En} (h : BR w ao n cap Z) (hk : ∀ k, U.blk ao = some k → w'.heap[k]? = w.heap[k]?) : BR w' ao n cap Z := by
 refine ⟨h.1, ?_⟩
 rcases h.2 with h0 | ⟨q, cap2, cur, hv, hq, hh, r⟩
 ·exact Or.inl h0
 ·simp only [Value.slice.injEq, true_and] at hv
  obtain ⟨rfl, rfl⟩ := hv
  exact Or.inr ⟨q, cap, cur, rfl, hq, (hk q rfl).trans hh, r⟩
theorem BR.lt {ao : Option Addr} {n cap : Nat} {Z : List K.En} (h : BR w ao n cap Z) (k : Nat) (hk : U.blk ao = some k) : k < w.heap.size := by
 rcases h.2 with h0 | ⟨q, cap2, cur, hv, hq, hh, r⟩
 ·simp only [Value.slice.injEq] at h0
  rw [h0.1.1] at hk
  cases hk
 ·simp only [Value.slice.injEq, true_and] at hv
  obtain ⟨rfl, rfl⟩ := hv
  have : q = k := Option.some.inj hk
  subst this
  exact (Array.getElem?_eq_some_iff.1 hh).1
theorem BR.new {ao : Option Addr} {n cap : Nat} {Z : List K.En} (h : BR w ao n cap Z) (o : Obj) : BR (w.alloc o) ao n cap Z := h.keep fun k hk => Below.heap_alloc w o k (h.lt k hk)
theorem BR.app1 {ao : Option Addr} {n cap : Nat} {Z : List K.En} (h : BR w ao n cap Z) (e : K.En) (C : Array Value) (hC : C = K.EC e) (hb : n + 1 ≤ 3518437208882)
  {ops : Array Oper} {rest : List Oper} {o : Oper} {a : Act} {Q : Exit → Act → World → Prop} (hgd : o.guard = none) (s y : Operand) (ho : o.op = .call { callee := .builtin .append, args := #[s, y], argTypes := #[26, 26] })
  (hs : a.eval s = .slice ao n cap) (hy : a.eval y = .slice (some ⟨w.heap.size, 0, none⟩) 1 1)
  (hK : ∀ (bo : Option Addr) (cap2 : Nat) (w2 : World), BR w2 bo (n + 1) cap2 (Z ++ [e]) → U.Ap w w2 ao bo → wpList Tryz.prog ops Q rest (a.put o.dst (.slice bo (n + 1) cap2)) w2) :
  wpList Tryz.prog ops Q (o :: rest) a (w.alloc (.cells C 57)) := by
 subst hC
 obtain ⟨i0, hi, hz0, hz1, hz2⟩ := info_parts K.info28
 refine wpList_append_own_at _ hgd s y 26 ho 0 57 i0 (.agg #[.int .i64 0, .int .i64 0, .string ⟨#[]⟩, .int .i64 0]) 4 40 Tryz.underlying26 hi hz0 hz1 hz2 rfl (by decide) _ n (K.ecs Z) hs (h.new _) ⟨w.heap.size, 0, none⟩ 1 1 (K.EC e).toList hy (by simp [K.EC]) ?_ ?_ (by unfold maxLen; omega) (by omega) (Nat.zero_le _) ?_
 ·intro j u hj
  rw [Addr.add_lit, Nat.zero_add, World.cell?_alloc_new]
  simpa using hj
 ·intro u hu
  exact K.EC_one e u hu
 ·intro v' w2 hown hgrow _ hat
  have e1 : K.ecs Z ++ (K.EC e).toList = K.ecs (Z ++ [e]) := by rw [K.ecs_append, K.ecs_one]
  rw [e1] at hown
  obtain ⟨bo, c2, rfl, hB⟩ := BR.out hown
  rw [U.ownBlock_blk] at hgrow
  rw [U.ownBlock_blk, U.ownBlock_blk] at hat
  refine hK bo c2 w2 hB ((U.Ap.new w _ ao).trans ⟨hgrow, ?_⟩)
  rcases hat with x | x
  ·exact Or.inl x
  ·exact Or.inr ⟨_, x, Nat.le_refl _⟩
theorem BR.src {ao : Option Addr} {n cap : Nat} {Z : List K.En} (h : BR w ao n cap Z) (hb : n ≤ 3518437208882) (hs : ∀ e ∈ Z, e.sku.size ≤ maxLen) : K.ESrc w ao n cap Z := by
 have hl := h.len
 subst hl
 exact (K.OwnE.src (B0 := 0) (B := 0) (w := w) ⟨h, Below.refl _ _, Nat.zero_le _, Nat.le_refl _⟩ hs (by omega)).1
end Go.Proofs.YtphohmoibnoeaaaGreat.E
