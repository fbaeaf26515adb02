/- ONr LRChk LSome LOwn LOwn2 OPk Shs -/
import Derived.Test.YtalpnhfoaohhhaaGreatTd17
import Derived.Test.YtalpnhfoaohhhaaGreatTd10
import Derived.Lib.MinMax
import Derived.Deep.CutRange
import Derived.Test.YtalpnhfoaohhhaaGreatTd16
import Derived.Lib.OthersKept
import Derived.Maps.AppendAt
import Derived.Shelf.SlicesQ.IndexFunc
import Derived.Test.YtalpnhfoaohhhaaGreatProg
set_option maxRecDepth 100000
set_option maxHeartbeats 1600000
namespace Go.Proofs.YtalpnhfoaohhhaaGreat
open Go.RowKit
attribute [local go_sem ↓] ldP_eq stP_eq ldD_eq stD_eq
attribute [local go_sem] cells_PV PC_size
variable {w w' w2 W W' : World} {g : Nat}

def NrA (w w' : World) (e : Ending) (p : Pv) (d : Rn) : Prop := ∃ (q : Pv) (i : Nat), e = .returned (PV q) /\ PSrc w' q /\ FirstAt p.P.cloud d p.cn i /\ q.P = ⟨p.P.vec, (p.P.cloud.drop i).take 1⟩ /\ Below w.heap.size w w'
end Go.Proofs.YtalpnhfoaohhhaaGreat
namespace Go.Proofs.YtalpnhfoaohhhaaGreat.K
section
open Go.RowKit
attribute [local go_sem ↓] ld28_eq st28_eq
attribute [local go_sem] zero_EC cells_EV
def DC (e : En) : Array Value := #[.int .i64 e.rep, .int .i64 e.num]
theorem ahead_any (x y : En) (w : World) : Calls Tryz.prog 86 #[.agg #[.int .i64 x.rep, .int .i64 x.num], .agg #[.int .i64 y.rep, .int .i64 y.num]] w fun e w' => e = .returned (.bool (ahead x y)) /\ Below w.heap.size w w' := by
 have HB : Hid (Below w.heap.size w ((w.alloc (.cells #[.int .i64 x.rep, .int .i64 x.num] 32)).alloc (.cells #[.int .i64 y.rep, .int .i64 y.num] 32))) := (below_new w _).trans ((below_new _ _).mono (by simp))
 obtain ⟨r, m, s, q⟩ := x
 obtain ⟨r', m', s', q'⟩ := y
 by_cases h1 : r < r'
 ·have HF : Hid (ahead ⟨r, m, s, q⟩ ⟨r', m', s', q'⟩ = true) := by show _ = _; unfold ahead; rw [decide_eq_true h1]; rfl
  go_enter Tryz.func86, Tryz.ntmps86
  go_wp2
  go_ret
  exact ⟨ret_bool HF.out.symm, HB.out⟩
 ·by_cases h2 : r = r'
  ·have HF : Hid (ahead ⟨r, m, s, q⟩ ⟨r', m', s', q'⟩ = decide (m < m')) := by show _ = _; unfold ahead; rw [decide_eq_false h1]; simp [h2]
   have h2' : (r == r') = true := by simpa using h2
   clear h2
   go_enter Tryz.func86, Tryz.ntmps86
   go_wp2
   go_ret
   exact ⟨ret_bool HF.out.symm, HB.out⟩
  ·have HF : Hid (ahead ⟨r, m, s, q⟩ ⟨r', m', s', q'⟩ = false) := by show _ = _; unfold ahead; rw [decide_eq_false h1]; simp [h2]
   have h2' : (r == r') = false := by simpa using h2
   clear h2
   go_enter Tryz.func86, Tryz.ntmps86
   go_wp2
   go_ret
   exact ⟨ret_bool HF.out.symm, HB.out⟩
theorem ahead_dc (x y : En) (w : World) : Calls Tryz.prog 86 #[.agg (DC x), .agg (DC y)] w fun e w' => e = .returned (.bool (ahead x y)) /\ Below w.heap.size w w' := ahead_any x y w
def ld26 (v : Value) : Sem Value := Instr.loadAt 32 v
theorem ld26_eq (v : Value) : Instr.loadAt 32 v = ld26 v := rfl
attribute [local go_sem ↓] ld26_eq
theorem size26 : (Tryz.prog.info? 32).map (·.size) = some 2 := by kernel_rfl
theorem run_ld26 {w : World} {p : Addr} {e : En} (A : EnAt w p e) : (ld26 (.pointer (some p))).run Tryz.prog w = .ok (.agg (DC e)) w := by
 have hl := run_loadCells_list (P := Tryz.prog) (w := w) p (DC e).toList (fun j v hv => by
  match j, hv with
  | 0, hv => cases hv; rw [add_zero]; exact A.c0
  | 1, hv => cases hv; exact A.c1
  | j + 2, hv => simp [DC] at hv)
 unfold ld26
 simp only [Instr.loadAt, Instr.sureAddr, Sem.run_bind, Sem.run_pure, Result.andThen]
 cases hq : Tryz.prog.info? 32 with
 | none => have := size26; simp [hq] at this
 | some x =>
  have hs : x.size = 2 := by have := size26; simpa [hq] using this
  have hagg : (isAgg 32).run Tryz.prog w = .ok true w := by
   unfold isAgg
   rw [Sem.run_bind, run_underlying Tryz.underlying32 w]
   rfl
  have e4 : (DC e).toList.length = 2 := rfl
  rw [e4] at hl
  simp [loadVar, Sem.run_bind, hagg, sizeOf, typeInfo, hq, hs, hl]

theorem refCheckL_any (ao : Option Addr) (n cap : Nat) (L : List En) (w : World) (hS : ESrc w ao n cap L) :
  Calls Tryz.prog 51 #[.slice ao n cap] w fun e w' => e = .returned (.int .i64 (chk L)) /\ Below w.heap.size w w' := by
 have HS := hide hS
 have hn := hS.2.2.2.2
 have HL : Hid (L.length = n) := hS.1
 clear hS
 go_enter Tryz.func51, Tryz.ntmps51
 go_wp2_with fail
 go_loopw [3] (fun i wr => ∃ k : Nat, k <= n /\ i = .int .i64 k /\ Hid (okN L k = true) /\ Hid (Below w.heap.size w wr)) (fun i _ => n - (intOf i).toNat)
 case atStart => exact ⟨0, Nat.zero_le _, rfl, rfl, Below.refl _ _⟩
 case round =>
  obtain ⟨k, hk, rfl, HK, HB⟩ := hrel
  by_cases hlt : k < n
  ·obtain ⟨ad, rfl, A0⟩ := (HS.out.below HB.out).at k hlt
   have hld := run_ld28 A0
   obtain ⟨e, He⟩ : ∃ e, Hid (L.getD k en0 = e) := ⟨_, rfl⟩
   have hsk := HS.out.sku k hlt
   rw [He.out] at hld hsk A0
   have HA0 := hide A0
   have HSK := hide hsk
   clear hsk A0
   obtain ⟨c, Hc⟩ : ∃ c, Hid (ceE e = c) := ⟨_, rfl⟩
   by_cases h0 : c = 0
   ·have h0' : (c != 0) = false := by simpa using h0
    by_cases hk0 : k = 0
    ·have HN : Hid (okN L (k + 1) = true) := by show _ = _; rw [okN_succ, HK.out]; unfold okAt; rw [He.out, Hc.out, h0]; simp [hk0]
     subst hk0
     rw [Nat.zero_mul, add_zero] at hld
     clear h0
     go_wp2_with (go_at_call 85; refine (refCheckEntry_ec e _ HSK.out).mono ?_; rintro x w1 ⟨rfl, b1⟩; rw [Hc.out])
     have HW1 := hide (HB.out.trans (b1.mono HB.out.size))
     refine wp_region_quiet_below (by kernel_rfl) (by kernel_rfl) ?_
     repeat (with_reducible (refine wpQuiet_step ?_); intro K hK; go_simp; (try rw [if_neg (by unfold undef; simp)]); first | (with_reducible (refine hK _ ?_); clear hK K) | (apply Exists.intro; refine ⟨fun _ => ?_, hK _ ?_⟩; (fail); clear hK K))
     with_reducible (refine wpQuiet_nil ?_)
     intro _ hw'
     obtain ⟨⟨dq, osq⟩, hw''⟩ := hw'
     subst hw''
     have HBE : Hid (Below w.heap.size w (Sort.grow (redrawn w1 dq) osq)) := HW1.out.trans ((below_regrown w1 dq osq).mono HW1.out.size)
     go_wp2_with fail
     go_roundw
     case rel => exact ⟨0 + 1, by omega, by go_num, HN, HBE⟩
     case measure => simp [intOf]; omega
    ·have hk1 : decide ((0 : Int) < (k : Int)) = true := decide_eq_true (by omega)
     have hk2 : 0 < k := by omega
     obtain ⟨j, hj⟩ : ∃ j, k - 1 = j := ⟨_, rfl⟩
     have hz : IntKind.i64.wrap ((k : Int) - 1) = (j : Int) := by rw [IntKind.wrap_i64]; omega
     have hjn : j < n := by omega
     have A1 := (HS.out.below HB.out).2.2.1 ad rfl j (by omega)
     obtain ⟨e1, He1⟩ : ∃ e1, Hid (L.getD j en0 = e1) := ⟨_, rfl⟩
     rw [He1.out] at A1
     have HA1 := hide A1
     clear A1
     obtain ⟨q, Hq⟩ : ∃ q, Hid (ahead e1 e = q) := ⟨_, rfl⟩
     have hok : okAt L k = q := by unfold okAt; rw [He.out, Hc.out, h0, hj, He1.out, Hq.out]; simp [hk0]
     clear h0 hk0
     have HOK := hide hok
     clear hok
     cases q with
     | false =>
      have HF : Hid (chk L = 1) := by
       show _ = _; unfold chk; rw [okN_no L k _ (by rw [HL.out]; exact hlt) HOK.out]; rfl
      go_wp2_with (go_at_call 85; refine (refCheckEntry_ec e _ HSK.out).mono ?_; rintro x w1 ⟨rfl, b1⟩; rw [Hc.out])
      have HW1 := hide (HB.out.trans (b1.mono HB.out.size))
      have l0 : ∀ d os, (ld26 (.pointer (some (ad.add (k * 4))))).run Tryz.prog (Sort.grow (redrawn w1 d) os) = .ok (.agg (DC e)) (Sort.grow (redrawn w1 d) os) := fun d os => run_ld26 ((HA0.out.on b1).on (below_regrown w1 d os))
      have l1 : ∀ d os, (ld26 (.pointer (some (ad.add (j * 4))))).run Tryz.prog (Sort.grow (redrawn w1 d) os) = .ok (.agg (DC e1)) (Sort.grow (redrawn w1 d) os) := fun d os => run_ld26 ((HA1.out.on b1).on (below_regrown w1 d os))
      have cD : ∀ d os, Calls Tryz.prog 86 #[.agg (DC e1), .agg (DC e)] (Sort.grow (redrawn w1 d) os) fun x w'' => x = .returned (.bool false) /\ ∃ p : Regrown, w'' = Sort.grow (redrawn w1 p.d) p.os := fun d os => by
       have := ahead_dc e1 e (Sort.grow (redrawn w1 d) os)
       rw [Hq.out] at this
       exact Calls.regrown_of this
      refine wp_region_quiet_below (by kernel_rfl) (by kernel_rfl) ?_
      repeat (with_reducible (refine wpQuiet_step ?_); intro K hK; go_simp; (try rw [if_neg (by unfold undef; simp)]); first | (with_reducible (refine hK _ ?_); clear hK K) | (apply Exists.intro; refine ⟨fun _ => ?_, hK _ ?_⟩; (go_at_call 86; exact cD _ _); clear hK K))
      with_reducible (refine wpQuiet_nil ?_)
      intro _ hw'
      obtain ⟨⟨dq, osq⟩, hw''⟩ := hw'
      subst hw''
      have HBE : Hid (Below w.heap.size w (Sort.grow (redrawn w1 dq) osq)) := HW1.out.trans ((below_regrown w1 dq osq).mono HW1.out.size)
      go_wp2_with fail
      go_ret
      exact ⟨ret_int HF.out.symm, HBE.out⟩
     | true =>
      have HN : Hid (okN L (k + 1) = true) := by show _ = _; rw [okN_succ, HK.out, HOK.out]; rfl
      go_wp2_with (go_at_call 85; refine (refCheckEntry_ec e _ HSK.out).mono ?_; rintro x w1 ⟨rfl, b1⟩; rw [Hc.out])
      have HW1 := hide (HB.out.trans (b1.mono HB.out.size))
      have l0 : ∀ d os, (ld26 (.pointer (some (ad.add (k * 4))))).run Tryz.prog (Sort.grow (redrawn w1 d) os) = .ok (.agg (DC e)) (Sort.grow (redrawn w1 d) os) := fun d os => run_ld26 ((HA0.out.on b1).on (below_regrown w1 d os))
      have l1 : ∀ d os, (ld26 (.pointer (some (ad.add (j * 4))))).run Tryz.prog (Sort.grow (redrawn w1 d) os) = .ok (.agg (DC e1)) (Sort.grow (redrawn w1 d) os) := fun d os => run_ld26 ((HA1.out.on b1).on (below_regrown w1 d os))
      have cD : ∀ d os, Calls Tryz.prog 86 #[.agg (DC e1), .agg (DC e)] (Sort.grow (redrawn w1 d) os) fun x w'' => x = .returned (.bool true) /\ ∃ p : Regrown, w'' = Sort.grow (redrawn w1 p.d) p.os := fun d os => by
       have := ahead_dc e1 e (Sort.grow (redrawn w1 d) os)
       rw [Hq.out] at this
       exact Calls.regrown_of this
      refine wp_region_quiet_below (by kernel_rfl) (by kernel_rfl) ?_
      repeat (with_reducible (refine wpQuiet_step ?_); intro K hK; go_simp; (try rw [if_neg (by unfold undef; simp)]); first | (with_reducible (refine hK _ ?_); clear hK K) | (apply Exists.intro; refine ⟨fun _ => ?_, hK _ ?_⟩; (go_at_call 86; exact cD _ _); clear hK K))
      with_reducible (refine wpQuiet_nil ?_)
      intro _ hw'
      obtain ⟨⟨dq, osq⟩, hw''⟩ := hw'
      subst hw''
      have HBE : Hid (Below w.heap.size w (Sort.grow (redrawn w1 dq) osq)) := HW1.out.trans ((below_regrown w1 dq osq).mono HW1.out.size)
      go_wp2_with fail
      go_roundw
      case rel => exact ⟨k + 1, by omega, by go_num, HN, HBE⟩
      case measure => simp [intOf]; omega
   ·have h0' : (c != 0) = true := by simpa using h0
    have HF : Hid (chk L = 1) := by
     show _ = _; unfold chk; rw [okN_no L k _ (by rw [HL.out]; exact hlt) (by unfold okAt; rw [He.out, Hc.out]; simp [h0])]; rfl
    clear h0
    go_wp2_with (go_at_call 85; refine (refCheckEntry_ec e _ HSK.out).mono ?_; rintro x w1 ⟨rfl, b1⟩; rw [Hc.out])
    go_ret
    exact ⟨ret_int HF.out.symm, HB.out.trans (b1.mono HB.out.size)⟩
  ·obtain rfl : k = n := by omega
   have HF : Hid (chk L = 0) := by show _ = _; unfold chk; rw [HL.out, HK.out]; rfl
   go_wp2_with fail
   go_ret
   exact ⟨ret_int HF.out.symm, HB.out⟩
end
section
open Go.RowKit

abbrev bA : ByteArray := ⟨#[65]⟩
abbrev bB : ByteArray := ⟨#[66]⟩
def someL : List En := [⟨0, 3, bA, 5⟩, ⟨1, 1, bB, 2⟩, ⟨1, 4, bA, 1⟩]
def GivesE (w w' : World) (e : Ending) (L : List En) : Prop := ∃ ao n c, e = .returned (.slice ao n c) /\ ESrc w' ao n c L /\ Below w.heap.size w w' /\ ∀ ad, ao = some ad -> w.heap.size <= ad.block
theorem lit_esrc (w : World) (L : List En) (C : Array Value) (hC : C = (L.map (fun e => (EC e).toList)).flatten.toArray) (T : TypeId) (n : Nat) (hn : L.length = n) (hs : ∀ e ∈ L, e.sku.size <= maxLen) (hm : n <= 3518437208883) :
  ESrc (w.alloc (.cells C T)) (some ⟨w.heap.size, 0, none⟩) n n L := by
 subst hC hn
 have key : ∀ (L : List En) (t j : Nat), t < L.length -> j < 4 -> ((L.map (fun e => (EC e).toList)).flatten)[t * 4 + j]? = (EC (L.getD t en0)).toList[j]? := by
  intro L
  induction L with
  | nil => intro t j ht; simp at ht
  | cons a L ih =>
   intro t j ht hj
   cases t with
   | zero => rw [List.map_cons, List.flatten_cons, List.getElem?_append_left (by simp [EC]; omega)]; simp [List.getD]
   | succ t =>
    rw [List.map_cons, List.flatten_cons, List.getElem?_append_right (by simp [EC]; omega)]
    have h := ih t j (by simpa using ht) hj
    have e4 : (t + 1) * 4 + j - (EC a).toList.length = t * 4 + j := by simp [EC]; omega
    rw [e4, h]; simp [List.getD]
 have cell : ∀ t j, t < L.length -> j < 4 -> (w.alloc (.cells (L.map (fun e => (EC e).toList)).flatten.toArray T)).cell? ⟨w.heap.size, t * 4 + j, none⟩ = (EC (L.getD t en0)).toList[j]? := by
  intro t j ht hj
  rw [World.cell?_alloc_new, List.getElem?_toArray, key L t j ht hj]
 refine ⟨rfl, fun h => (by cases h), fun ad h t ht => ?_, hs, hm⟩
 obtain rfl := Option.some.inj h
 refine ⟨?_, ?_, ?_, ?_⟩
 ·rw [Addr.add_lit, Nat.zero_add]; exact cell t 0 ht (by omega)
 ·rw [Addr.add_lit, Addr.add_lit, Nat.zero_add]; exact cell t 1 ht (by omega)
 ·rw [Addr.add_lit, Addr.add_lit, Nat.zero_add]; exact cell t 2 ht (by omega)
 ·rw [Addr.add_lit, Addr.add_lit, Nat.zero_add]; exact cell t 3 ht (by omega)
end
section
open Go.RowKit

def ecs (L : List En) : List Value := (L.map (fun e => (EC e).toList)).flatten
theorem ecs_append (L R : List En) : ecs (L ++ R) = ecs L ++ ecs R := by simp [ecs]
theorem ecs_one (e : En) : ecs [e] = (EC e).toList := by simp [ecs]
theorem ecs_length (L : List En) : (ecs L).length = L.length * 4 := by
 induction L with
 | nil => rfl
 | cons a L ih => have : ecs (a :: L) = (EC a).toList ++ ecs L := rfl; rw [this, List.length_append, ih]; simp [EC]; omega
theorem ecs_at (L : List En) (t j : Nat) (ht : t < L.length) (hj : j < 4) : (ecs L)[t * 4 + j]? = (EC (L.getD t en0)).toList[j]? := by
 induction L generalizing t with
 | nil => simp at ht
 | cons a L ih =>
  have e : ecs (a :: L) = (EC a).toList ++ ecs L := rfl
  cases t with
  | zero => rw [e, List.getElem?_append_left (by simp [EC]; omega)]; simp [List.getD]
  | succ t =>
   rw [e, List.getElem?_append_right (by simp [EC]; omega)]
   have h := ih t (by simpa using ht)
   have e4 : (t + 1) * 4 + j - (EC a).toList.length = t * 4 + j := by simp [EC]; omega
   rw [e4, h]; simp [List.getD]
theorem info28 : (Tryz.prog.info? 36).map (fun i => (i.zero, i.size, i.bytes)) = some (some (.agg #[.int .i64 0, .int .i64 0, .string ⟨#[]⟩, .int .i64 0]), 4, 40) := by kernel_rfl

structure OwnE (B0 B : Nat) (w w' : World) (ao : Option Addr) (cap : Nat) (acc : List En) : Prop where
 own : w'.ownsRow B 36 4 (.slice ao acc.length cap) acc.length (ecs acc)
 below : Below B0 w w'
 hB : B <= w'.heap.size
 hB0 : B0 <= B
theorem OwnE.nil {B0 B : Nat} {w w' : World} (hb : Below B0 w w') (hB : B <= w'.heap.size) (h0 : B0 <= B) : OwnE B0 B w w' none 0 [] :=
 ⟨World.ownsRow_nil _ _ _ _, hb, hB, h0⟩
theorem OwnE.append {B0 B : Nat} {w w' : World} {ao : Option Addr} {cap : Nat} {acc : List En} (O : OwnE B0 B w w' ao cap acc) (e : En) (C : Array Value) (hC : C = EC e) (hlen : acc.length < 3518437208883)
  {ops : Array Oper} {rest : List Oper} {o : Oper} {a : Act} {Q : Exit -> Act -> World -> Prop} (hgd : o.guard = none) (s x : Operand) (ho : o.op = .call { callee := .builtin .append, args := #[s, x], argTypes := #[22, 22] })
  (n : Nat) (hn : acc.length = n) (hs : a.eval s = .slice ao n cap) (hx : a.eval x = .slice (some ⟨w'.heap.size, 0, none⟩) 1 1)
  (hK : ∀ (g cap2 : Nat) (w2 : World), OwnE B0 B w w2 (some ⟨g, 0, none⟩) cap2 (acc ++ [e]) -> (∀ k, k < B -> w2.heap[k]? = w'.heap[k]?) -> wpList Tryz.prog ops Q rest (a.put o.dst (.slice (some ⟨g, 0, none⟩) (n + 1) cap2)) w2) :
  wpList Tryz.prog ops Q (o :: rest) a (w'.alloc (.cells C 36)) := by
 subst hn hC
 obtain ⟨i0, hi, hz0, hz1, hz2⟩ := info_parts info28
 have hB := O.hB
 have hB0 := O.hB0
 refine wpList_append_own _ hgd s x 22 ho B 36 i0 (.agg #[.int .i64 0, .int .i64 0, .string ⟨#[]⟩, .int .i64 0]) 4 40 Tryz.underlying22 hi hz0 hz1 hz2 rfl (by decide) _ acc.length (ecs acc) hs (O.own.alloc _) ⟨w'.heap.size, 0, none⟩ 1 1 (EC e).toList hx (by simp [EC]) ?_ ?_ (by unfold maxLen; omega) (by omega) (by simp; omega) ?_
 ·intro j u hj
  rw [Addr.add_lit, Nat.zero_add, World.cell?_alloc_new]
  simpa using hj
 ·intro u hu
  exact EC_one e u hu
 ·intro v' w2 hown hgrow _
  rcases hown.2 with ⟨h0, h00⟩ | ⟨g, cap2, cur, hv, hbg, hgg, hnc, hcm, hcsz, htake⟩
  ·omega
  ·subst hv
   have hrow : ∀ k, (Value.slice ao acc.length cap).ownBlock = some k -> B <= k := fun k hk => (O.own.lt k hk).1
   have hsz := hgrow.size
   rw [World.size_alloc] at hsz
   refine hK g cap2 w2 ⟨?_, (O.below.alloc (by omega) _).grown hgrow (by simp; omega) (fun k hk => by have := hrow k hk; omega), by omega, hB0⟩ (fun k hk => ?_)
   ·rw [List.length_append, ecs_append, ecs_one]; exact hown
   ·rw [hgrow.block k (by simp; omega) (fun e => by have := hrow k e.symm; omega)]
    exact Below.heap_alloc _ _ _ (by omega)
theorem OwnE.later {B0 B : Nat} {w w' w2 : World} {ao : Option Addr} {cap : Nat} {acc : List En} (O : OwnE B0 B w w' ao cap acc) (hb : Below w'.heap.size w' w2) : OwnE B0 B w w2 ao cap acc := by
 refine ⟨⟨O.own.1, ?_⟩, O.below.trans (hb.mono (Nat.le_trans O.hB0 O.hB)), Nat.le_trans O.hB hb.size, O.hB0⟩
 rcases O.own.2 with h | ⟨g, cap2, cur, hv, hbg, hgg, r⟩
 ·exact Or.inl h
 ·exact Or.inr ⟨g, cap2, cur, hv, hbg, (hb.block g (Array.getElem?_eq_some_iff.1 hgg).1).trans hgg, r⟩
theorem OwnE.src {B0 B : Nat} {w w' : World} {ao : Option Addr} {cap : Nat} {acc : List En} (O : OwnE B0 B w w' ao cap acc) (hs : ∀ e ∈ acc, e.sku.size <= maxLen) (hl : acc.length <= 3518437208883) : ESrc w' ao acc.length cap acc /\ ∀ ad, ao = some ad -> B <= ad.block := by
 rcases O.own.2 with ⟨h0, h00⟩ | ⟨g, cap2, cur, hv, hbg, hgg, hnc, hcm, hcsz, htake⟩
 ·simp only [Value.slice.injEq] at h0
  obtain ⟨rfl, e0, rfl⟩ := h0
  exact ⟨⟨rfl, fun _ => ⟨h00, rfl⟩, fun ad h => (by cases h), hs, hl⟩, fun ad h => (by cases h)⟩
 ·simp only [Value.slice.injEq, true_and] at hv
  obtain ⟨rfl, rfl⟩ := hv
  have cell : ∀ t j, t < acc.length -> j < 4 -> w'.cell? ⟨g, t * 4 + j, none⟩ = (EC (acc.getD t en0)).toList[j]? := fun t j ht hj => by
   rw [O.own.cellAt (t * 4 + j) (by omega), ecs_at _ t j ht hj]
  refine ⟨⟨rfl, fun h => (by cases h), fun ad h t ht => ?_, hs, hl⟩, fun ad h => by obtain rfl := Option.some.inj h; exact hbg⟩
  obtain rfl := Option.some.inj h
  refine ⟨?_, ?_, ?_, ?_⟩
  ·rw [Addr.add_lit, Nat.zero_add]; exact cell t 0 ht (by omega)
  ·rw [Addr.add_lit, Addr.add_lit, Nat.zero_add]; exact cell t 1 ht (by omega)
  ·rw [Addr.add_lit, Addr.add_lit, Nat.zero_add]; exact cell t 2 ht (by omega)
  ·rw [Addr.add_lit, Addr.add_lit, Nat.zero_add]; exact cell t 3 ht (by omega)
end
section
open Go.RowKit

theorem fold_EC (e : En) : Array.foldl (fun cs x => cs.setIfInBounds x.snd x.fst) (EC en0) (EC e).zipIdx 0 4 = EC e := rfl
theorem cell_kept {w w2 : World} {a : Addr} (h : w2.heap[a.block]? = w.heap[a.block]?) : w2.cell? a = w.cell? a := by
 unfold World.cell?; rw [h]
theorem ESrc.kept {w w2 : World} {ao : Option Addr} {m c : Nat} {L : List En} (h : ESrc w ao m c L) (hk : ∀ ad, ao = some ad -> w2.heap[ad.block]? = w.heap[ad.block]?) : ESrc w2 ao m c L := by
 refine ⟨h.1, h.2.1, fun ad ha t ht => ?_, h.2.2.2⟩
 have A := h.2.2.1 ad ha t ht
 have hb : ∀ j, w2.cell? ((ad.add (t * 4)).add j) = w.cell? ((ad.add (t * 4)).add j) := fun j => cell_kept (by rw [block_add, block_add]; exact hk ad ha)
 have hb0 : w2.cell? (ad.add (t * 4)) = w.cell? (ad.add (t * 4)) := cell_kept (by rw [block_add]; exact hk ad ha)
 exact ⟨hb0.trans A.c0, (hb 1).trans A.c1, (hb 2).trans A.c2, (hb 3).trans A.c3⟩
theorem OwnE.lt {B0 B : Nat} {w w' : World} {ao : Option Addr} {cap : Nat} {acc : List En} (O : OwnE B0 B w w' ao cap acc) (ad : Addr) (h : ao = some ad) : ad.block < w'.heap.size := by
 subst h
 exact (O.own.lt ad.block (by simp [Value.ownBlock])).2
end
section
open Go.RowKit
attribute [local go_sem ↓] ld28_eq st28_eq
attribute [local go_sem] zero_EC cells_EV EC_size
attribute [local go_sem] fold_EC
end
end Go.Proofs.YtalpnhfoaohhhaaGreat.K
namespace Go.Proofs
open Go.Shelf
def Tryz.conS_ren : Go.Shelf.Ren := ⟨fun | 8 => 149 | 6 => 176 | n => n, fun | 22 => 24 | 23 => 99 | 25 => 169 | 4 => 4 | 3 => 3 | 0 => 0 | n => n, fun | n => n⟩
end Go.Proofs
