/- LChk LRChk LSome LOwn LOwn2 OPk Shs -/
import Derived.Test.YtalcmdjiejhkgaaGreatKl17
import Derived.Lib.OthersKept
import Derived.Maps.AppendAt
import Derived.Shelf.SlicesQ.IndexFunc
import Derived.Test.YtalcmdjiejhkgaaGreatProg
set_option maxRecDepth 100000
set_option maxHeartbeats 1600000
namespace Go.Proofs.YtalcmdjiejhkgaaGreat.K
section
open Go.RowKit
attribute [local go_sem ↓] ld28_eq st28_eq
attribute [local go_sem] zero_EC cells_EV
def okAt (L : List En) (k : Nat) : Bool := ceE (L.getD k en0) == 0 && (decide (k = 0) || ahead (L.getD (k - 1) en0) (L.getD k en0))
def okN (L : List En) (k : Nat) : Bool := (List.range k).all (okAt L)
def chk (L : List En) : Int := if okN L L.length = true then 0 else 1
theorem okN_succ (L : List En) (k : Nat) : okN L (k + 1) = (okN L k && okAt L k) := by unfold okN; rw [List.range_succ, List.all_append]; simp
theorem okN_no (L : List En) (k n : Nat) (h : k < n) (hs : okAt L k = false) : okN L n = false := by
 unfold okN; rw [List.all_eq_false]; exact ⟨k, by simpa using h, by rw [hs]; simp⟩
theorem byD_ahead (x y : En) : decide (0 <= byD x y) = !ahead x y := by
 unfold byD ahead or2 cmpI
 by_cases h1 : x.rep < y.rep
 ·simp [h1]
 ·by_cases h2 : y.rep < x.rep
  ·have : ¬ x.rep = y.rep := by omega
   simp [h1, h2, this]
  ·have : x.rep = y.rep := by omega
   by_cases h3 : x.num < y.num
   ·simp [this, h3]
   ·by_cases h4 : y.num < x.num
    ·simp [this, h3, h4]
    ·simp [this, h3, h4]

theorem lcheck_any (ao : Option Addr) (n cap : Nat) (L : List En) (w : World) (hS : ESrc w ao n cap L) :
  Calls Tryz.prog 47 #[.slice ao n cap] w fun e w' => e = .returned (.int .i64 (chk L)) /\ Below w.heap.size w w' := by
 have HS := hide hS
 have hn := hS.2.2.2.2
 have HL : Hid (L.length = n) := hS.1
 clear hS
 go_enter Tryz.func47, Tryz.ntmps47
 go_wp2_with fail
 go_loopw [7] (fun i wr => ∃ k : Nat, k <= n /\ i = .int .i64 k /\ Hid (okN L k = true) /\ Hid (Below w.heap.size w wr)) (fun i _ => n - (intOf i).toNat)
 case atStart => exact ⟨0, Nat.zero_le _, rfl, rfl, Below.refl _ _⟩
 case round =>
  obtain ⟨k, hk, rfl, HK, HB⟩ := hrel
  by_cases hlt : k < n
  ·obtain ⟨ad, rfl, A0⟩ := (HS.out.below HB.out).at k hlt
   have hld := run_ld28 A0
   obtain ⟨e, He⟩ : ∃ e, Hid (L.getD k en0 = e) := ⟨_, rfl⟩
   have hsk := HS.out.sku k hlt
   rw [He.out] at hld hsk A0
   obtain ⟨w1, hst, X1, B1, Z1⟩ := made wr e wr.heap.size rfl
   have HX := hide X1
   have HB1 := hide B1
   have HSK := hide hsk
   clear X1 B1 hsk A0
   have le : ∀ d os, (ld28 (.pointer (some ⟨wr.heap.size, 0, none⟩))).run Tryz.prog (Sort.grow (redrawn w1 d) os) = .ok (EV e) (Sort.grow (redrawn w1 d) os) := fun d os => run_ld28 (HX.out.below (below_regrown w1 d os)).at
   obtain ⟨c, Hc⟩ : ∃ c, Hid (ceE e = c) := ⟨_, rfl⟩
   have cE : ∀ d os, Calls Tryz.prog 81 #[EV e] (Sort.grow (redrawn w1 d) os) fun x w'' => x = .returned (.int .i64 c) /\ ∃ p : Regrown, w'' = Sort.grow (redrawn w1 p.d) p.os := fun d os => by
    have := checkEntry_ec e (Sort.grow (redrawn w1 d) os) HSK.out
    rw [Hc.out] at this
    exact Calls.regrown_of this
   by_cases h0 : c = 0
   ·have h0' : (c != 0) = false := by simpa using h0
    by_cases hk0 : k = 0
    ·have HN : Hid (okN L (k + 1) = true) := by show _ = _; rw [okN_succ, HK.out]; unfold okAt; rw [He.out, Hc.out, h0]; simp [hk0]
     subst hk0
     rw [Nat.zero_mul, add_zero] at hld
     clear h0
     go_wp2_with fail
     refine wp_region_quiet_below (by kernel_rfl) (by kernel_rfl) ?_
     repeat (with_reducible (refine wpQuiet_step ?_); intro K hK; go_simp; (try rw [if_neg (by unfold undef; simp)]); first | (with_reducible (refine hK _ ?_); clear hK K) | (apply Exists.intro; refine ⟨fun _ => ?_, hK _ ?_⟩; (go_at_call 81; exact cE _ _); clear hK K))
     with_reducible (refine wpQuiet_nil ?_)
     intro _ hw'
     obtain ⟨⟨dq, osq⟩, hw''⟩ := hw'
     subst hw''
     have HBE : Hid (Below w.heap.size w (Sort.grow (redrawn w1 dq) osq)) := (HB.out.trans (HB1.out.mono HB.out.size)).trans ((below_regrown w1 dq osq).mono (Nat.le_trans HB.out.size (by rw [Z1]; omega)))
     go_wp2_with fail
     go_roundw
     case rel => exact ⟨0 + 1, by omega, by go_num, HN, HBE⟩
     case measure => simp [intOf]; omega
    ·have hk1 : decide ((0 : Int) < (k : Int)) = true := decide_eq_true (by omega)
     have hk2 : 0 < k := by omega
     obtain ⟨j, hj⟩ : ∃ j, k - 1 = j := ⟨_, rfl⟩
     have hz : IntKind.i64.wrap ((k : Int) - 1) = (j : Int) := by rw [IntKind.wrap_i64]; omega
     have hjn : j < n := by omega
     have A1 := ((HS.out.below HB.out).2.2.1 ad rfl j (by omega)).on HB1.out
     obtain ⟨e1, He1⟩ : ∃ e1, Hid (L.getD j en0 = e1) := ⟨_, rfl⟩
     rw [He1.out] at A1
     have HA1 := hide A1
     clear A1
     have l1 : ∀ d os, (ld28 (.pointer (some (ad.add (j * 4))))).run Tryz.prog (Sort.grow (redrawn w1 d) os) = .ok (EV e1) (Sort.grow (redrawn w1 d) os) := fun d os => run_ld28 (HA1.out.on (below_regrown w1 d os))
     obtain ⟨q, Hq⟩ : ∃ q, Hid (byD e1 e = q) := ⟨_, rfl⟩
     have cD : ∀ d os, Calls Tryz.prog 82 #[EV e1, EV e] (Sort.grow (redrawn w1 d) os) fun x w'' => x = .returned (.int .i64 q) /\ ∃ p : Regrown, w'' = Sort.grow (redrawn w1 p.d) p.os := fun d os => by
      have := byDot_ec e1 e (Sort.grow (redrawn w1 d) os)
      rw [Hq.out] at this
      exact Calls.regrown_of this
     have hq := byD_ahead e1 e
     rw [Hq.out] at hq
     have hok : okAt L k = ahead e1 e := by unfold okAt; rw [He.out, Hc.out, h0, hj, He1.out]; simp [hk0]
     clear h0 hk0
     by_cases h1 : 0 <= q
     ·have HF : Hid (chk L = 1) := by
       show _ = _; unfold chk; rw [okN_no L k _ (by rw [HL.out]; exact hlt) (by rw [hok]; simpa [h1] using hq)]; rfl
      clear hq hok
      go_wp2_with fail
      refine wp_region_quiet_below (by kernel_rfl) (by kernel_rfl) ?_
      repeat (with_reducible (refine wpQuiet_step ?_); intro K hK; go_simp; (try rw [if_neg (by unfold undef; simp)]); first | (with_reducible (refine hK _ ?_); clear hK K) | (apply Exists.intro; refine ⟨fun _ => ?_, hK _ ?_⟩; (first | (go_at_call 81; exact cE _ _) | (go_at_call 82; exact cD _ _)); clear hK K))
      with_reducible (refine wpQuiet_nil ?_)
      intro _ hw'
      obtain ⟨⟨dq, osq⟩, hw''⟩ := hw'
      subst hw''
      have HBE : Hid (Below w.heap.size w (Sort.grow (redrawn w1 dq) osq)) := (HB.out.trans (HB1.out.mono HB.out.size)).trans ((below_regrown w1 dq osq).mono (Nat.le_trans HB.out.size (by rw [Z1]; omega)))
      go_wp2_with fail
      go_ret
      exact ⟨ret_int HF.out.symm, HBE.out⟩
     ·have HN : Hid (okN L (k + 1) = true) := by show _ = _; rw [okN_succ, HK.out, hok]; simpa [h1] using hq
      clear hq hok
      go_wp2_with fail
      refine wp_region_quiet_below (by kernel_rfl) (by kernel_rfl) ?_
      repeat (with_reducible (refine wpQuiet_step ?_); intro K hK; go_simp; (try rw [if_neg (by unfold undef; simp)]); first | (with_reducible (refine hK _ ?_); clear hK K) | (apply Exists.intro; refine ⟨fun _ => ?_, hK _ ?_⟩; (first | (go_at_call 81; exact cE _ _) | (go_at_call 82; exact cD _ _)); clear hK K))
      with_reducible (refine wpQuiet_nil ?_)
      intro _ hw'
      obtain ⟨⟨dq, osq⟩, hw''⟩ := hw'
      subst hw''
      have HBE : Hid (Below w.heap.size w (Sort.grow (redrawn w1 dq) osq)) := (HB.out.trans (HB1.out.mono HB.out.size)).trans ((below_regrown w1 dq osq).mono (Nat.le_trans HB.out.size (by rw [Z1]; omega)))
      go_wp2_with fail
      go_roundw
      case rel => exact ⟨k + 1, by omega, by go_num, HN, HBE⟩
      case measure => simp [intOf]; omega
   ·have h0' : (c != 0) = true := by simpa using h0
    have HF : Hid (chk L = 1) := by
     show _ = _; unfold chk; rw [okN_no L k _ (by rw [HL.out]; exact hlt) (by unfold okAt; rw [He.out, Hc.out]; simp [h0])]; rfl
    clear h0
    go_wp2_with fail
    refine wp_region_quiet_below (by kernel_rfl) (by kernel_rfl) ?_
    repeat (with_reducible (refine wpQuiet_step ?_); intro K hK; go_simp; (try rw [if_neg (by unfold undef; simp)]); first | (with_reducible (refine hK _ ?_); clear hK K) | (apply Exists.intro; refine ⟨fun _ => ?_, hK _ ?_⟩; (go_at_call 81; exact cE _ _); clear hK K))
    with_reducible (refine wpQuiet_nil ?_)
    intro _ hw'
    obtain ⟨⟨dq, osq⟩, hw''⟩ := hw'
    subst hw''
    have HBE : Hid (Below w.heap.size w (Sort.grow (redrawn w1 dq) osq)) := (HB.out.trans (HB1.out.mono HB.out.size)).trans ((below_regrown w1 dq osq).mono (Nat.le_trans HB.out.size (by rw [Z1]; omega)))
    go_wp2_with fail
    go_ret
    exact ⟨ret_int HF.out.symm, HBE.out⟩
  ·obtain rfl : k = n := by omega
   have HF : Hid (chk L = 0) := by show _ = _; unfold chk; rw [HL.out, HK.out]; rfl
   go_wp2_with fail
   go_ret
   exact ⟨ret_int HF.out.symm, HB.out⟩
end
section
open Go.RowKit
attribute [local go_sem ↓] ld28_eq st28_eq
attribute [local go_sem] zero_EC cells_EV
def DC (e : En) : Array Value := #[.int .i64 e.rep, .int .i64 e.num]
def ld26 (v : Value) : Sem Value := Instr.loadAt 47 v
theorem ld26_eq (v : Value) : Instr.loadAt 47 v = ld26 v := rfl
attribute [local go_sem ↓] ld26_eq
end
section
open Go.RowKit

abbrev bA : ByteArray := ⟨#[65]⟩
abbrev bB : ByteArray := ⟨#[66]⟩
def someL : List En := [⟨0, 3, bA, 5⟩, ⟨1, 1, bB, 2⟩, ⟨1, 4, bA, 1⟩]
def GivesE (w w' : World) (e : Ending) (L : List En) : Prop := ∃ ao n c, e = .returned (.slice ao n c) /\ ESrc w' ao n c L /\ Below w.heap.size w w' /\ ∀ ad, ao = some ad -> w.heap.size <= ad.block
theorem lit_esrc (w : World) (L : List En) (C : Array Value) (hC : C = (L.map (fun e => (EC e).toList)).flatten.toArray) (T : TypeId) (n : Nat) (hn : L.length = n) (hs : ∀ e ∈ L, e.sku.size <= maxLen) (hm : n <= 3518437208883) :
  ESrc (w.alloc (.cells C T)) (some ⟨w.heap.size, 0, none⟩) n n L := by
 subst hC hn
 have key : ∀ (L : List En) (t j : Nat), t < L.length -> j < 4 -> ((L.map (fun e => (EC e).toList)).flatten)[t * 4 + j]? = (EC (L.getD t en0)).toList[j]? := by
  intro L
  induction L with
  | nil => intro t j ht; simp at ht
  | cons a L ih =>
   intro t j ht hj
   cases t with
   | zero => rw [List.map_cons, List.flatten_cons, List.getElem?_append_left (by simp [EC]; omega)]; simp [List.getD]
   | succ t =>
    rw [List.map_cons, List.flatten_cons, List.getElem?_append_right (by simp [EC]; omega)]
    have h := ih t j (by simpa using ht) hj
    have e4 : (t + 1) * 4 + j - (EC a).toList.length = t * 4 + j := by simp [EC]; omega
    rw [e4, h]; simp [List.getD]
 have cell : ∀ t j, t < L.length -> j < 4 -> (w.alloc (.cells (L.map (fun e => (EC e).toList)).flatten.toArray T)).cell? ⟨w.heap.size, t * 4 + j, none⟩ = (EC (L.getD t en0)).toList[j]? := by
  intro t j ht hj
  rw [World.cell?_alloc_new, List.getElem?_toArray, key L t j ht hj]
 refine ⟨rfl, fun h => (by cases h), fun ad h t ht => ?_, hs, hm⟩
 obtain rfl := Option.some.inj h
 refine ⟨?_, ?_, ?_, ?_⟩
 ·rw [Addr.add_lit, Nat.zero_add]; exact cell t 0 ht (by omega)
 ·rw [Addr.add_lit, Addr.add_lit, Nat.zero_add]; exact cell t 1 ht (by omega)
 ·rw [Addr.add_lit, Addr.add_lit, Nat.zero_add]; exact cell t 2 ht (by omega)
 ·rw [Addr.add_lit, Addr.add_lit, Nat.zero_add]; exact cell t 3 ht (by omega)
end
section
open Go.RowKit

def ecs (L : List En) : List Value := (L.map (fun e => (EC e).toList)).flatten
theorem ecs_append (L R : List En) : ecs (L ++ R) = ecs L ++ ecs R := by simp [ecs]
theorem ecs_one (e : En) : ecs [e] = (EC e).toList := by simp [ecs]
theorem ecs_length (L : List En) : (ecs L).length = L.length * 4 := by
 induction L with
 | nil => rfl
 | cons a L ih => have : ecs (a :: L) = (EC a).toList ++ ecs L := rfl; rw [this, List.length_append, ih]; simp [EC]; omega
theorem ecs_at (L : List En) (t j : Nat) (ht : t < L.length) (hj : j < 4) : (ecs L)[t * 4 + j]? = (EC (L.getD t en0)).toList[j]? := by
 induction L generalizing t with
 | nil => simp at ht
 | cons a L ih =>
  have e : ecs (a :: L) = (EC a).toList ++ ecs L := rfl
  cases t with
  | zero => rw [e, List.getElem?_append_left (by simp [EC]; omega)]; simp [List.getD]
  | succ t =>
   rw [e, List.getElem?_append_right (by simp [EC]; omega)]
   have h := ih t (by simpa using ht)
   have e4 : (t + 1) * 4 + j - (EC a).toList.length = t * 4 + j := by simp [EC]; omega
   rw [e4, h]; simp [List.getD]
theorem info28 : (Tryz.prog.info? 49).map (fun i => (i.zero, i.size, i.bytes)) = some (some (.agg #[.int .i64 0, .int .i64 0, .string ⟨#[]⟩, .int .i64 0]), 4, 40) := by kernel_rfl

structure OwnE (B0 B : Nat) (w w' : World) (ao : Option Addr) (cap : Nat) (acc : List En) : Prop where
 own : w'.ownsRow B 49 4 (.slice ao acc.length cap) acc.length (ecs acc)
 below : Below B0 w w'
 hB : B <= w'.heap.size
 hB0 : B0 <= B
theorem OwnE.nil {B0 B : Nat} {w w' : World} (hb : Below B0 w w') (hB : B <= w'.heap.size) (h0 : B0 <= B) : OwnE B0 B w w' none 0 [] :=
 ⟨World.ownsRow_nil _ _ _ _, hb, hB, h0⟩
theorem OwnE.append {B0 B : Nat} {w w' : World} {ao : Option Addr} {cap : Nat} {acc : List En} (O : OwnE B0 B w w' ao cap acc) (e : En) (C : Array Value) (hC : C = EC e) (hlen : acc.length < 3518437208883)
  {ops : Array Oper} {rest : List Oper} {o : Oper} {a : Act} {Q : Exit -> Act -> World -> Prop} (hgd : o.guard = none) (s x : Operand) (ho : o.op = .call { callee := .builtin .append, args := #[s, x], argTypes := #[23, 23] })
  (n : Nat) (hn : acc.length = n) (hs : a.eval s = .slice ao n cap) (hx : a.eval x = .slice (some ⟨w'.heap.size, 0, none⟩) 1 1)
  (hK : ∀ (g cap2 : Nat) (w2 : World), OwnE B0 B w w2 (some ⟨g, 0, none⟩) cap2 (acc ++ [e]) -> (∀ k, k < B -> w2.heap[k]? = w'.heap[k]?) -> wpList Tryz.prog ops Q rest (a.put o.dst (.slice (some ⟨g, 0, none⟩) (n + 1) cap2)) w2) :
  wpList Tryz.prog ops Q (o :: rest) a (w'.alloc (.cells C 49)) := by
 subst hn hC
 obtain ⟨i0, hi, hz0, hz1, hz2⟩ := info_parts info28
 have hB := O.hB
 have hB0 := O.hB0
 refine wpList_append_own _ hgd s x 23 ho B 49 i0 (.agg #[.int .i64 0, .int .i64 0, .string ⟨#[]⟩, .int .i64 0]) 4 40 Tryz.underlying23 hi hz0 hz1 hz2 rfl (by decide) _ acc.length (ecs acc) hs (O.own.alloc _) ⟨w'.heap.size, 0, none⟩ 1 1 (EC e).toList hx (by simp [EC]) ?_ ?_ (by unfold maxLen; omega) (by omega) (by simp; omega) ?_
 ·intro j u hj
  rw [Addr.add_lit, Nat.zero_add, World.cell?_alloc_new]
  simpa using hj
 ·intro u hu
  exact EC_one e u hu
 ·intro v' w2 hown hgrow _
  rcases hown.2 with ⟨h0, h00⟩ | ⟨g, cap2, cur, hv, hbg, hgg, hnc, hcm, hcsz, htake⟩
  ·omega
  ·subst hv
   have hrow : ∀ k, (Value.slice ao acc.length cap).ownBlock = some k -> B <= k := fun k hk => (O.own.lt k hk).1
   have hsz := hgrow.size
   rw [World.size_alloc] at hsz
   refine hK g cap2 w2 ⟨?_, (O.below.alloc (by omega) _).grown hgrow (by simp; omega) (fun k hk => by have := hrow k hk; omega), by omega, hB0⟩ (fun k hk => ?_)
   ·rw [List.length_append, ecs_append, ecs_one]; exact hown
   ·rw [hgrow.block k (by simp; omega) (fun e => by have := hrow k e.symm; omega)]
    exact Below.heap_alloc _ _ _ (by omega)
theorem OwnE.later {B0 B : Nat} {w w' w2 : World} {ao : Option Addr} {cap : Nat} {acc : List En} (O : OwnE B0 B w w' ao cap acc) (hb : Below w'.heap.size w' w2) : OwnE B0 B w w2 ao cap acc := by
 refine ⟨⟨O.own.1, ?_⟩, O.below.trans (hb.mono (Nat.le_trans O.hB0 O.hB)), Nat.le_trans O.hB hb.size, O.hB0⟩
 rcases O.own.2 with h | ⟨g, cap2, cur, hv, hbg, hgg, r⟩
 ·exact Or.inl h
 ·exact Or.inr ⟨g, cap2, cur, hv, hbg, (hb.block g (Array.getElem?_eq_some_iff.1 hgg).1).trans hgg, r⟩
theorem OwnE.src {B0 B : Nat} {w w' : World} {ao : Option Addr} {cap : Nat} {acc : List En} (O : OwnE B0 B w w' ao cap acc) (hs : ∀ e ∈ acc, e.sku.size <= maxLen) (hl : acc.length <= 3518437208883) : ESrc w' ao acc.length cap acc /\ ∀ ad, ao = some ad -> B <= ad.block := by
 rcases O.own.2 with ⟨h0, h00⟩ | ⟨g, cap2, cur, hv, hbg, hgg, hnc, hcm, hcsz, htake⟩
 ·simp only [Value.slice.injEq] at h0
  obtain ⟨rfl, e0, rfl⟩ := h0
  exact ⟨⟨rfl, fun _ => ⟨h00, rfl⟩, fun ad h => (by cases h), hs, hl⟩, fun ad h => (by cases h)⟩
 ·simp only [Value.slice.injEq, true_and] at hv
  obtain ⟨rfl, rfl⟩ := hv
  have cell : ∀ t j, t < acc.length -> j < 4 -> w'.cell? ⟨g, t * 4 + j, none⟩ = (EC (acc.getD t en0)).toList[j]? := fun t j ht hj => by
   rw [O.own.cellAt (t * 4 + j) (by omega), ecs_at _ t j ht hj]
  refine ⟨⟨rfl, fun h => (by cases h), fun ad h t ht => ?_, hs, hl⟩, fun ad h => by obtain rfl := Option.some.inj h; exact hbg⟩
  obtain rfl := Option.some.inj h
  refine ⟨?_, ?_, ?_, ?_⟩
  ·rw [Addr.add_lit, Nat.zero_add]; exact cell t 0 ht (by omega)
  ·rw [Addr.add_lit, Addr.add_lit, Nat.zero_add]; exact cell t 1 ht (by omega)
  ·rw [Addr.add_lit, Addr.add_lit, Nat.zero_add]; exact cell t 2 ht (by omega)
  ·rw [Addr.add_lit, Addr.add_lit, Nat.zero_add]; exact cell t 3 ht (by omega)
end
section
open Go.RowKit

theorem fold_EC (e : En) : Array.foldl (fun cs x => cs.setIfInBounds x.snd x.fst) (EC en0) (EC e).zipIdx 0 4 = EC e := rfl
theorem take_snoc (L : List En) (k : Nat) (h : k < L.length) : L.take (k + 1) = L.take k ++ [L.getD k en0] := by
 rw [List.take_succ_eq_append_getElem h]; simp [List.getD, h]
end
section
open Go.RowKit
attribute [local go_sem ↓] ld28_eq st28_eq
attribute [local go_sem] zero_EC cells_EV EC_size
attribute [local go_sem] fold_EC
theorem pickPa_any (ao : Option Addr) (n cap : Nat) (L : List En) (b c2 : Nat) (p : En -> Bool) (w : World) (hS : ESrc w ao n cap L)
  (hp : ∀ W, Below w.heap.size w W -> ∀ e, Calls Tryz.prog 127 #[EV e, .pointer (some ⟨b, 0, none⟩), .pointer (some ⟨c2, 0, none⟩)] W fun x w' => x = .returned (.bool (p e)) /\ Below W.heap.size W w') :
  Calls Tryz.prog 113 #[.slice ao n cap, .func (.func 127) #[] #[.pointer (some ⟨b, 0, none⟩), .pointer (some ⟨c2, 0, none⟩)]] w fun x w' => GivesE w w' x (L.filter p) := by
 have HS := hide hS
 have hn := hS.2.2.2.2
 have HL : Hid (L.length = n) := hS.1
 have HP := hide hp
 clear hS hp
 go_enter Tryz.func113, Tryz.ntmps113
 go_wp2_with fail
 go_loopw [5, 10] (fun v i wr => ∃ (k : Nat) (ap : Option Addr) (c : Nat), k <= n /\ v = .slice ap ((L.take k).filter p).length c /\ i = .int .i64 k /\ Hid (OwnE w.heap.size w.heap.size w wr ap c ((L.take k).filter p))) (fun _ i _ => n - (intOf i).toNat)
 case atStart => exact ⟨0, none, 0, Nat.zero_le _, rfl, rfl, OwnE.nil (Below.refl _ _) (Nat.le_refl _) (Nat.le_refl _)⟩
 case round =>
  obtain ⟨k, ap, c, hk, rfl, rfl, HO⟩ := hrel
  obtain ⟨acc, Hacc⟩ : ∃ acc, Hid ((L.take k).filter p = acc) := ⟨_, rfl⟩
  have hal : acc.length <= k := by
   rw [<- Hacc.out]; have h1 := List.length_filter_le p (L.take k); have h2 := List.length_take_le k L; omega
  rw [Hacc.out] at HO ⊢
  by_cases hlt : k < n
  ·obtain ⟨ad, rfl, A0⟩ := (HS.out.below HO.out.below).at k hlt
   have hld := run_ld28 A0
   obtain ⟨e, He⟩ : ∃ e, Hid (L.getD k en0 = e) := ⟨_, rfl⟩
   rw [He.out] at hld A0
   have HT := hide (take_snoc L k (by rw [HL.out]; exact hlt))
   rw [He.out] at HT
   obtain ⟨w1, hst, X1, B1, Z1⟩ := made wr e wr.heap.size rfl
   have HX := hide X1
   have O1 := hide (HO.out.later B1)
   have lx := run_ld28 X1.at
   have HC := hide (HP.out w1 O1.out.below e)
   clear X1 B1 A0
   obtain ⟨q, Hq⟩ : ∃ q, Hid (p e = q) := ⟨_, rfl⟩
   rw [Hq.out] at HC
   cases q with
   | false =>
    have HN : Hid ((L.take (k + 1)).filter p = acc) := by show _ = _; rw [HT.out, List.filter_append, Hacc.out]; simp [Hq.out]
    go_wp2_with fail
    refine HC.out.mono ?_
    rintro x w2 ⟨rfl, b2⟩
    have O2 := hide (O1.out.later b2)
    clear b2
    go_wp2_with fail
    go_roundw
    case rel => exact ⟨k + 1, ap, c, by omega, by rw [HN.out], by go_num, by rw [HN.out]; exact O2⟩
    case measure => simp [intOf]; omega
   | true =>
    have HN : Hid ((L.take (k + 1)).filter p = acc ++ [e]) := by show _ = _; rw [HT.out, List.filter_append, Hacc.out]; simp [Hq.out]
    go_wp2_with fail
    refine HC.out.mono ?_
    rintro x w2 ⟨rfl, b2⟩
    have O2 := O1.out.later b2
    have l2 := run_ld28 (HX.out.below b2).at
    clear b2 lx
    go_wp2_with (at_builtin; refine O2.append e _ rfl (by omega) rfl (.tmp 17) (.tmp 19) rfl acc.length rfl rfl rfl ?_; intro g4 c4 w4 O4 hk4)
    go_roundw
    case rel => exact ⟨k + 1, some ⟨g4, 0, none⟩, c4, by omega, by rw [HN.out]; simp, by go_num, by rw [HN.out]; exact O4⟩
    case measure => simp [intOf]; omega
  ·obtain rfl : k = n := by omega
   have HF : Hid (L.filter p = acc) := by show _ = _; rw [<- Hacc.out, List.take_of_length_le (by rw [HL.out]; exact Nat.le_refl _)]
   have hs : ∀ e ∈ acc, e.sku.size <= maxLen := by
    intro e he; rw [<- HF.out] at he; exact HS.out.2.2.2.1 e ((List.mem_filter.1 he).1)
   obtain ⟨S1, F1⟩ := HO.out.src hs (by omega)
   have HS1 := hide S1
   have HF1 := hide F1
   clear S1 F1 hs
   go_wp2_with fail
   go_ret
   exact ⟨_, _, _, rfl, by rw [HF.out]; exact HS1.out, HO.out.below, HF1.out⟩
end
end Go.Proofs.YtalcmdjiejhkgaaGreat.K
namespace Go.Proofs
open Go.Shelf
def Tryz.conS_ren : Go.Shelf.Ren := ⟨fun | 8 => 60 | 6 => 100 | n => n, fun | 22 => 25 | 23 => 45 | 25 => 94 | 4 => 4 | 3 => 3 | 0 => 0 | n => n, fun | n => n⟩
theorem Tryz.conS : Go.Proofs.SlLaysH0.n8 Tryz.prog Tryz.conS_ren := {
 mixed := by kernel_rfl
 f6 := ⟨Tryz.f100.name, by decide, Tryz.func100.trans (congrArg some (by kernel_rfl))⟩
 f8 := ⟨Tryz.f60.name, by decide, Tryz.func60.trans (congrArg some (by kernel_rfl))⟩
 t0 := Tryz.underlying0
 a0 := Tryz.isAgg0
 z0 := Tryz.sizeOf0
 v0 := Tryz.zeroValue0
 t3 := Tryz.underlying3
 a3 := Tryz.isAgg3
 z3 := Tryz.sizeOf3
 v3 := Tryz.zeroValue3
 t4 := Tryz.underlying4
 a4 := Tryz.isAgg4
 z4 := Tryz.sizeOf4
 v4 := Tryz.zeroValue4
 t22 := Tryz.underlying25
 a22 := Tryz.isAgg25
 z22 := Tryz.sizeOf25
 v22 := Tryz.zeroValue25
 t25 := Tryz.underlying94
 a25 := Tryz.isAgg94
 z25 := Tryz.sizeOf94
 v25 := Tryz.zeroValue94 }
end Go.Proofs
