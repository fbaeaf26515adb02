/- EIp EIq EGf Litl LKf LRg LLk EGb -/
import Derived.Test.YtmbkmpeongodbaaGreatAm28
import Derived.Test.YtmbkmpeongodbaaGreatAm27
import Derived.Test.YtmbkmpeongodbaaGreatAm29
import Derived.Test.YtmbkmpeongodbaaGreatAm16
import Derived.Test.YtmbkmpeongodbaaGreatAm19
import Derived.Shelf.SlIter.Nil
import Derived.Shelf.SortM.Plain
import Derived.Shelf.SortM.SortNone
import Derived.Test.YtmbkmpeongodbaaGreatProg
import Derived.Test.YtmbkmpeongodbaaGreatAm22
import Derived.RegionTactic
import Derived.Maps.OwnOps
import Derived.StringKeys
import Derived.Test.YtmbkmpeongodbaaGreatAm09
namespace Go.Proofs.YtmbkmpeongodbaaGreat
open Go.RowKit
theorem ce_of {e : K.En} (h1 : RepOk e.rep) (h2 : 1 ≤ e.num ∧ e.num ≤ 1000000000) (h3 : K.good e.sku.data.toList = true) (h4 : 1 ≤ e.qty ∧ e.qty ≤ 1000000) : K.ceE e = 0 := by
 have hr : K.isR e.rep = true := by unfold K.isR; have := h1.1; have := h1.2; simp; omega
 unfold K.ceE
 rw [hr, h3, if_neg (by decide), if_neg (by omega), if_neg (by decide), if_neg (by omega)]
theorem eqS_self (s : ByteArray) : K.eqS s s = true := (K.eqS_iff s s).2 rfl
end Go.Proofs.YtmbkmpeongodbaaGreat
namespace Go.Proofs.YtmbkmpeongodbaaGreat
open Go.RowKit
theorem zero_empty : EmptyP pv0.P := fun r hr n h => by
 have := (mem_runs pv0.P r hr n).1 h
 rcases this with ⟨h1, -, h2 | ⟨c, hc, -⟩⟩
 ·have : (pv0.P.vec.getD r 0) = 0 := by simp [pv0]
  omega
 ·cases hc
theorem zero_form : InForm pv0.P := ⟨by decide, trivial⟩
end Go.Proofs.YtmbkmpeongodbaaGreat
namespace Go.Proofs.YtmbkmpeongodbaaGreat
open Go.RowKit
theorem rcs_off {w w' : World} {ao : Option Addr} {n cap : Nat} {L : List Rc} (h : RcS w ao n cap L) (hk : ∀ ad, ao = some ad → w'.heap[ad.block]? = w.heap[ad.block]?) (hp : ∀ r ∈ L, RcOk w' r) : RcS w' ao n cap L := by
 refine ⟨h.len, h.nil, fun ad ha t ht => ?_, hp, h.big⟩
 have A := h.at_ ad ha t ht
 have hc : ∀ a : Addr, a.block = ad.block → w'.cell? a = w.cell? a := fun a e => K.cell_kept (by rw [e]; exact hk ad ha)
 have e1 : (ad.add (t * 3)).block = ad.block := block_of_add _ _
 exact ⟨by rw [hc _ e1]; exact A.c0, by rw [hc _ (by rw [block_of_add]; exact e1)]; exact A.c1, by rw [hc _ (by rw [block_of_add]; exact e1)]; exact A.c2⟩
theorem FcOk.off {w w' : World} {f : Fc} {N : Nat} (h : FcOk w f) (hn : FNew N f) (hk : ∀ k, N ≤ k → w'.heap[k]? = w.heap[k]?) : FcOk w' f :=
 ⟨h.es.kept (fun ad e => hk _ (hn.a ad e)), psrc_off h.p (fun ad e => hk _ (hn.p.1 ad e)) (fun ad e => hk _ (hn.p.2 ad e)), rcs_off h.rs (fun ad e => hk _ (hn.r ad e)) (fun r hr => ⟨psrc_off (h.rs.ok r hr).1 (fun ad e => hk _ ((hn.q r hr).1 ad e)) (fun ad e => hk _ ((hn.q r hr).2 ad e)), (h.rs.ok r hr).2⟩)⟩
theorem res2Fa {w : World} {g : Nat} {fn : Func} {p q : Tmp} {m : FacV} {v : Value} (h : fn.results = #[.cell p 36, .tmp q]) {tmps : Array Value} (hp : tmps.getD p undef = .pointer (some ⟨g, 0, none⟩)) (hq : tmps.getD q undef = v) (A : FaBox w g m) :
  (results fn tmps).run Tryz.prog w = .ok (.tuple #[FaV m, v]) w := by
 have hl := run_lvFa A
 simp only [results, h]
 rw [Array.getD_eq_getD_getElem?] at hp hq
 simp [hp, hq, asAddr, hl]
theorem zero_FaC : (#[.slice none 0 0, .slice none 0 0, .slice none 0 0, .slice none 0 0] : Array Value) = FaC (mkF fc0) := rfl
def bldF (a : Array (Nat × Value)) : Sem Value := Instr.build 36 a
theorem bldF_eq (a : Array (Nat × Value)) : Instr.build 36 a = bldF a := rfl
theorem run_bldF0 (w : World) : (bldF #[]).run Tryz.prog w = .ok (.agg (FaC (mkF fc0))) w := by kernel_rfl
theorem run_bldF1 (a : Option Addr) (n c : Nat) (p : Pv) (w : World) : (bldF #[(0, .slice a n c), (1, .agg (PC p))]).run Tryz.prog w = .ok (.agg #[.slice a n c, .slice p.vo p.vn p.vc, .slice p.co p.cn p.cc, .slice none 0 0]) w := by kernel_rfl
theorem run_bldF2 (p : Pv) (w : World) : (bldF #[(1, .agg (PC p))]).run Tryz.prog w = .ok (.agg #[.slice none 0 0, .slice p.vo p.vn p.vc, .slice p.co p.cn p.cc, .slice none 0 0]) w := by kernel_rfl
theorem run_bldF3 (a : Option Addr) (n c : Nat) (w : World) : (bldF #[(2, .slice a n c)]).run Tryz.prog w = .ok (.agg #[.slice none 0 0, .slice none 0 0, .slice none 0 0, .slice a n c]) w := by kernel_rfl
theorem run_bldEd (d : Rn) (q : Int) (s : ByteArray) (w : World) : (bldE #[(0, .agg (RC d)), (1, .string s), (2, .int .i64 q)]).run Tryz.prog w = .ok (.agg #[.int .i64 d.lo, .int .i64 d.hi, .string s, .int .i64 q]) w := by kernel_rfl
def bsE (a : Array (Nat × Value)) : Sem Value := Instr.buildSlice 22 1 a
theorem bsE_eq (a : Array (Nat × Value)) : Instr.buildSlice 22 1 a = bsE a := rfl
theorem run_bsE (a b q : Int) (s : ByteArray) (w : World) : (bsE #[(0, .agg #[.int .i64 a, .int .i64 b, .string s, .int .i64 q])]).run Tryz.prog w = .ok (.slice (some ⟨w.heap.size, 0, none⟩) 1 1) (w.alloc (.cells #[.int .i64 a, .int .i64 b, .string s, .int .i64 q] 46)) := by kernel_rfl
def bsR (a : Array (Nat × Value)) : Sem Value := Instr.buildSlice 34 1 a
theorem bsR_eq (a : Array (Nat × Value)) : Instr.buildSlice 34 1 a = bsR a := rfl
theorem run_bsR (r : Rc) (w : World) : (bsR #[(0, .agg (ReC (mkR r)))]).run Tryz.prog w = .ok (.slice (some ⟨w.heap.size, 0, none⟩) 1 1) (w.alloc (.cells (ReC (mkR r)) 65)) := by kernel_rfl
def fcG (a : Option Addr) (n c : Nat) (E : List K.En) (p : Pv) : Fc := ⟨a, n, c, E, p, none, 0, 0, []⟩
def fcR (a : Option Addr) (n c : Nat) (R : List Rc) : Fc := ⟨none, 0, 0, [], pv0, a, n, c, R⟩
theorem esrc_none (w : World) : K.ESrc w none 0 0 [] := ⟨rfl, fun _ => ⟨rfl, rfl⟩, fun ad h => (by cases h), fun e he => (by cases he), Nat.zero_le _⟩
theorem keep_facts {w W : World} {g : Nat} {m0 : FacV} {f : Fc} (hX : FaBox W g m0) (hF : FcOk W f) (hn : FNew (g + 1) f) (hb : Below w.heap.size w W) (hg : w.heap.size ≤ g) :
  FaBox (W.setRow g (FaC (mkF f))) g (mkF f) ∧ FcOk (W.setRow g (FaC (mkF f))) f ∧ FNew w.heap.size f ∧ Below w.heap.size w (W.setRow g (FaC (mkF f))) :=
 ⟨hX.setRow, hF.off hn (fun k hk => setRow_other _ _ _ _ (by omega)), hn.mono (by omega), below_setRow hb hg⟩
theorem give_facts {w W : World} {g : Nat} {m0 : FacV} {f : Fc} {er : Int} (D : Fc → Int → Prop) (hX : FaBox W g m0) (hF : FcOk W f) (hn : FNew (g + 1) f) (hb : Below w.heap.size w W) (hg : w.heap.size ≤ g) (hD : D f er) :
  FaBox (W.setRow g (FaC (mkF f))) g (mkF f) ∧ DeA w (W.setRow g (FaC (mkF f))) (.returned (.tuple #[FaV (mkF f), .int .i64 er])) D :=
 have h := keep_facts hX hF hn hb hg
 ⟨h.1, f, er, rfl, h.2.1, h.2.2.1, h.2.2.2, hD⟩
end Go.Proofs.YtmbkmpeongodbaaGreat
namespace Go.Proofs
open Go.Shelf
def Tryz.keysL_ren : Go.Shelf.Ren := ⟨fun | 7 => 172 | 10 => 197 | n => n, fun | 23 => 201 | 26 => 9 | 3 => 53 | 28 => 165 | 0 => 0 | 27 => 164 | 33 => 100 | 4 => 4 | n => n, fun | n => n⟩
theorem Tryz.keysL : Go.Proofs.SlLaysZ.n7 Tryz.prog Tryz.keysL_ren := {
 mixed := by kernel_rfl
 f7 := ⟨Tryz.f172.name, by decide, Tryz.func172.trans (congrArg some (by kernel_rfl))⟩
 f10 := ⟨Tryz.f197.name, by decide, Tryz.func197.trans (congrArg some (by kernel_rfl))⟩
 t0 := Tryz.underlying0
 a0 := Tryz.isAgg0
 z0 := Tryz.sizeOf0
 v0 := Tryz.zeroValue0
 t4 := Tryz.underlying4
 a4 := Tryz.isAgg4
 z4 := Tryz.sizeOf4
 v4 := Tryz.zeroValue4
 t23 := Tryz.underlying201
 a23 := Tryz.isAgg201
 z23 := Tryz.sizeOf201
 v23 := Tryz.zeroValue201
 t26 := Tryz.underlying9
 a26 := Tryz.isAgg9
 z26 := Tryz.sizeOf9
 v26 := Tryz.zeroValue9
 t27 := Tryz.underlying164
 a27 := Tryz.isAgg164
 z27 := Tryz.sizeOf164
 v27 := Tryz.zeroValue164
 t28 := Tryz.underlying165
 a28 := Tryz.isAgg165
 z28 := Tryz.sizeOf165
 v28 := Tryz.zeroValue165
 t33 := Tryz.underlying100
 a33 := Tryz.isAgg100
 z33 := Tryz.sizeOf100
 v33 := Tryz.zeroValue100 }
end Go.Proofs
namespace Go.Proofs.YtmbkmpeongodbaaGreat.K
open Go.RowKit Go.Maps Go.Sort Go.Shelf

theorem sorts_in (m : Nat) : AnyZ.SortsIn Tryz.prog Tryz.sortedM_ren Fence.wide m :=
 ⟨fun blk off cap ss W hH hblk hsz => callsIn_wide.2 (AnyM.slices_Sort_string Tryz.sortM blk off cap ss W hH hblk hsz),
 fun p cap W => callsIn_wide.2 (AnyM.slices_Sort_string_none Tryz.sortM p cap W)⟩
theorem keys_any (mb : Option Nat) (W : World) : Calls Tryz.prog 172 #[.map mb] W fun e w' => e = .returned (.func (.func 197) #[] #[.pointer (some ⟨W.heap.size, 0, none⟩)]) ∧ w' = W.alloc (.cells #[.map mb] 201) :=
 (callsIn_wide (n := 5)).1 (AnyZ.keys_in Tryz.keysL Fence.wide 5 trivial rfl mb W)
def GivesK (w w' : World) (e : Ending) (T : List (List UInt8)) : Prop := ∃ v, e = .returned v ∧ w'.ownsRow w.heap.size 9 1 v T.length (T.map encStr) ∧ Below w.heap.size w w'
set_option maxHeartbeats 1000000 in
theorem sortedKeys_any {H : Type} (b nn : Nat) (D0 : DataW H) (R : Value → Option (DataW H × List MemPlace)) (w : World) (hown : w.ownsMap Tryz.prog 9 R b nn D0) (hmax : Maps.size D0 ≤ maxLen) (hbytes : Maps.size D0 * 16 ≤ 140737488355328) :
  Calls Tryz.prog 121 #[.func (.func 197) #[] #[.pointer (some ⟨w.heap.size, 0, none⟩)]] (w.alloc (.cells #[.map (some b)] 201)) fun e w' => ∃ ss : List (List UInt8), ss.Perm (strKeys D0) ∧ GivesK (w.alloc (.cells #[.map (some b)] 201)) w' e (ss.mergeSort leB) := by
 have hbl := hown.lt
 have hseq : SeqGives Fence.wide 2 Tryz.prog 197 #[.pointer (some ⟨w.heap.size, 0, none⟩)] encStr (fun ss => ss.Perm (strKeys D0)) (Maps.size D0) (w.alloc (.cells #[.map (some b)] 201)) :=
  AnyZ.keys_gives (ρ := Tryz.keysL_ren) { Tryz.keysL with } Fence.wide _ trivial rfl (by omega) w.heap.size b nn D0 _ (by simp) (by simp) (by
   obtain ⟨es, clock, hb, Ft, hs, hD⟩ := hown
   exact ⟨es, clock, (Below.heap_alloc _ _ b hbl).trans hb, Ft, hs, hD⟩)
 have h := AnyZ.sorted_in Tryz.sortedM Fence.wide 5 trivial trivial trivial trivial rfl (by omega) (sorts_in _) (enters_of Tryz.func158 (by kernel_rfl) rfl) 197 #[.pointer (some ⟨w.heap.size, 0, none⟩)] trivial (enters_of Tryz.func197 (by kernel_rfl) rfl) _ _ hmax hbytes _ hseq
 refine ((callsIn_wide (n := 5)).1 h).mono ?_
 rintro e w' ⟨v, ss, rfl, hS, hrow, _, hb⟩
 refine ⟨ss, hS, v, rfl, ?_, hb⟩
 have e1 : (ss.mergeSort leB).length = ss.length := (List.mergeSort_perm ss leB).length_eq
 rw [e1]
 exact hrow
end Go.Proofs.YtmbkmpeongodbaaGreat.K
namespace Go.Proofs.YtmbkmpeongodbaaGreat.K
open Go.RowKit

def cntF (n : Nat) (l : Array Bool) : Nat := (List.range n).countP (fun i => !l.getD i true)
theorem countP_less {p q : Nat → Bool} {i : Nat} : ∀ {xs : List Nat}, (∀ j, q j = true → p j = true) → i ∈ xs → p i = true → q i = false → xs.countP q < xs.countP p
 | [], _, h, _, _ => by cases h
 | x :: xs, hpq, h, hp, hq => by
  have hle : xs.countP q ≤ xs.countP p := List.countP_mono_left (fun j _ => hpq j)
  rcases List.mem_cons.1 h with rfl | h
  ·rw [List.countP_cons_of_neg (by simp [hq]), List.countP_cons_of_pos (by simp [hp])]; omega
  ·have := countP_less hpq h hp hq
   rw [List.countP_cons, List.countP_cons]
   have hx := hpq x
   cases hqx : q x with
   | true => simp [hx hqx]; exact this
   | false => cases p x <;> simp <;> omega
theorem ready_mem {md : Region.Mode} {ops : Array Oper} {l : Array Bool} {i : Nat} (h : i ∈ Region.ready md ops l) : i < ops.size ∧ l.getD i true = false ∧ ∀ o, ops[i]? = some o → ∀ e ∈ o.after, Region.binds md e = true → l.getD e.on false = true := by
 unfold Region.ready at h
 rw [List.mem_filter, List.mem_range] at h
 obtain ⟨h1, h2⟩ := h
 simp only [Bool.and_eq_true, Bool.not_eq_true'] at h2
 refine ⟨h1, h2.1, fun o ho e he hb => ?_⟩
 have h3 := h2.2
 rw [ho] at h3
 simp only [Option.map_some, Option.getD_some] at h3
 have := Array.all_eq_true'.1 h3 e he
 simpa [hb] using this
theorem ready_nil {md : Region.Mode} {ops : Array Oper} {l : Array Bool} (h : cntF ops.size l = 0) : Region.ready md ops l = [] := by
 unfold Region.ready
 rw [List.filter_eq_nil_iff]
 intro i hi
 have := List.countP_eq_zero.1 h i hi
 simp at this
 simp [this]
theorem wpAny_inv {P : Program} {md : Region.Mode} {ops : Array Oper} {Q : Exit → Act → World → Prop} (I : Array Bool → Act → World → Prop) (hz : ∀ l a w, I l a w → l.size = ops.size)
  (hs : ∀ l a w, I l a w → ∀ i, i ∈ Region.ready md ops l → wpOp P ops Q i (fun a' w' => I (l.setIfInBounds i true) a' w') a w)
  (he : ∀ l a w, I l a w → Region.ready md ops l = [] → Q .normal a w) :
  ∀ (fuel : Nat) (l : Array Bool) (a : Act) (w : World), I l a w → cntF ops.size l ≤ fuel → wpAny P md ops Q fuel l a w
 | 0, l, a, w, h, hf => ⟨ready_nil (by omega), he l a w h (ready_nil (by omega))⟩
 | fuel + 1, l, a, w, h, hf => by
  refine ⟨he l a w h, fun i hi => wpOp_mono (fun a' w' h' => ?_) (hs l a w h i hi)⟩
  refine wpAny_inv I hz hs he fuel _ a' w' h' ?_
  obtain ⟨h1, h2, _⟩ := ready_mem hi
  have hl := hz l a w h
  have : cntF ops.size (l.setIfInBounds i true) < cntF ops.size l := by
   unfold cntF
   refine countP_less (i := i) (fun j hj => ?_) (List.mem_range.2 h1) (by simp only [h2]; rfl) ?_
   ·by_cases e : i = j
    ·subst e
     simp [Array.getD, hl, h1] at hj
    ·simpa [Array.getD_eq_getD_getElem?, Array.getElem?_setIfInBounds, e] using hj
   ·simp [Array.getD, hl, h1]
  omega
theorem wp_region_inv {P : Program} {ops : Array Oper} {Q : Exit → Act → World → Prop} {id : Nat} {a : Act} {w : World} (hm : P.follows .mixedOrders = true) (I : Array Bool → Act → World → Prop) (h0 : I (Array.replicate ops.size false) a w.drew) (hz : ∀ l a w, I l a w → l.size = ops.size)
  (hs : ∀ l a w, I l a w → ∀ i, i ∈ Region.ready .any ops l → wpOp P ops Q i (fun a' w' => I (l.setIfInBounds i true) a' w') a w)
  (he : ∀ l a w, I l a w → Region.ready .any ops l = [] → Q .normal a w) : (Code.region id ops true).wp P Q a w :=
 wp_region_any hm (wpAny_inv I hz hs he _ _ _ _ h0 (by unfold cntF; have := List.countP_le_length (p := fun i => !(Array.replicate ops.size false).getD i true) (l := List.range ops.size); simpa using this))
def backward (ops : Array Oper) : Bool := (List.range ops.size).all fun i => ((ops[i]?).map fun o => o.after.all fun e => !Region.binds .any e || decide (e.on < i)).getD true
theorem ready_done {ops : Array Oper} {l : Array Bool} (hb : backward ops = true) (hz : l.size = ops.size) (h : Region.ready .any ops l = []) : ∀ i, i < ops.size → l.getD i false = true := by
 intro i
 induction i using Nat.strongRecOn with
 | _ i ih =>
  intro hi
  unfold Region.ready at h
  rw [List.filter_eq_nil_iff] at h
  have h1 := h i (List.mem_range.2 hi)
  have h2 := List.all_eq_true.1 hb i (List.mem_range.2 hi)
  rw [Array.getElem?_eq_getElem hi] at h1 h2
  simp only [Option.map_some, Option.getD_some] at h1 h2
  have h3 : (ops[i].after.all fun e => !Region.binds .any e || l.getD e.on false) = true := by
   rw [Array.all_eq_true']
   intro e he
   have := Array.all_eq_true'.1 h2 e he
   cases hb : Region.binds .any e with
   | false => simp
   | true =>
    simp only [hb, Bool.not_true, Bool.false_or, decide_eq_true_eq] at this
    rw [ih e.on this (by omega)]
    simp
  rw [h3] at h1
  have hl : i < l.size := by omega
  simp [Array.getD, hl] at h1 ⊢
  exact h1
theorem set_same {l : Array Bool} {i : Nat} (h : i < l.size) : (l.setIfInBounds i true).getD i false = true := by simp [Array.getD, h]
theorem set_other {l : Array Bool} {i j : Nat} (h : i ≠ j) : (l.setIfInBounds i true).getD j false = l.getD j false := by simp [Array.getD_eq_getD_getElem?, h]
theorem no_true {l : Array Bool} {i : Nat} (h : l.getD i true = false) : l.getD i false = false := by
 rw [Array.getD_eq_getD_getElem?] at h ⊢
 cases hq : l[i]? with
 | none => rw [hq] at h; cases h
 | some x => rw [hq] at h; exact h
theorem rep_false (n i : Nat) : (Array.replicate n false).getD i false = false := by
 rw [Array.getD_eq_getD_getElem?, Array.getElem?_replicate]; split <;> rfl
structure VI (n : Nat) (ex : List Value) (l : Array Bool) (vs : List Value) : Prop where
 sz : l.size = n
 len : vs.length = ex.length
 val : ∀ i, i < ex.length → l.getD i false = true → vs.getD i undef = ex.getD i undef
theorem VI.start (n : Nat) (ex vs : List Value) (h : vs.length = ex.length) : VI n ex (Array.replicate n false) vs :=
 ⟨by simp, h, fun i _ h => by rw [rep_false] at h; cases h⟩
theorem VI.set {n : Nat} {ex vs : List Value} {l : Array Bool} (T : VI n ex l vs) (i : Nat) (_ : i < n) : VI n ex (l.setIfInBounds i true) (vs.set i (ex.getD i undef)) := by
 refine ⟨by simpa using T.sz, by simpa using T.len, fun j hj h => ?_⟩
 by_cases e : i = j
 ·subst e
  rw [List.getD_eq_getElem?_getD, List.getElem?_set_self (by rw [T.len]; exact hj)]; rfl
 ·rw [set_other e] at h
  rw [List.getD_eq_getElem?_getD, List.getElem?_set_ne e, ← List.getD_eq_getElem?_getD]
  exact T.val j hj h
end Go.Proofs.YtmbkmpeongodbaaGreat.K
namespace Go.Proofs.YtmbkmpeongodbaaGreat.K
open Go.RowKit Go.Maps Go.Sort
attribute [local go_sem ↓] ld28_eq st28_eq
attribute [local go_sem] zero_EC cells_EV EC_size LC_size
theorem law9 : Keyed Tryz.prog 9 := string_keyed Tryz.underlying9
theorem zeroL (w : World) : (zeroValue 53).run Tryz.prog w = .ok (LV ln0) w := Tryz.zeroValue53 w
def MapI (w : World) (b k : Nat) (L : List En) : Prop := ∃ D, w.ownsMap Tryz.prog 9 RL b k D ∧ Mp D L
def GivesL (w w' : World) (e : Ending) (L : List En) : Prop := ∃ ao n c R er, e = .returned (.tuple #[.slice ao n c, .int .i64 er]) ∧ LSrc w' ao n c R ∧ Below w.heap.size w w' ∧ (∀ ad, ao = some ad → w.heap.size ≤ ad.block ∧ ad = ⟨ad.block, 0, none⟩) ∧ LinesOf L R er
theorem chk_01 (L : List En) : chk L = 0 ∨ chk L = 1 := by unfold chk; split <;> simp
theorem owns_below {w w' : World} {b k n : Nat} {D : DataW Ln} (h : w.ownsMap Tryz.prog 9 RL b k D) (hb : Below n w w') (hn : b < n) : w'.ownsMap Tryz.prog 9 RL b k D := by
 obtain ⟨es, c, h1, h2⟩ := h
 exact ⟨es, c, (hb.block b hn).trans h1, h2⟩
structure RegI (wk W : World) (b k : Nat) (D : DataW Ln) (e : En) (l0 : Ln) : Prop where
 own : W.ownsMap Tryz.prog 9 RL b (k + 1) (D.put (.string e.sku.data.toList) (.held (addL l0 e)))
 way : ∃ Wb, Below wk.heap.size wk Wb ∧ Wb.grownBy W (some b)
theorem RegI.back {w1 wk W : World} {k : Nat} {D : DataW Ln} {e : En} {l0 : Ln} (h : RegI wk W w1.heap.size k D e l0) (hb : Below w1.heap.size w1 wk) : Below w1.heap.size w1 W := by
 obtain ⟨Wb, b1, g1⟩ := h.way
 have h2 := hb.trans (b1.mono hb.size)
 exact h2.grown g1 h2.size (fun j hj => by cases hj; exact Nat.le_refl _)
theorem look_line {w : World} {b k : Nat} {D : DataW Ln} {L : List En} (h : w.ownsMap Tryz.prog 9 RL b k D) (hm : Mp D L) (s : ByteArray) (hs : s.size ≤ maxLen) : (Instr.lookup 201 (.map (some b)) (.string s) false).run Tryz.prog w = .ok (LV (lineOf L s)) w := by
 obtain ⟨v, ps, hr, hv⟩ := h.lookup law9 Tryz.underlying201 (zeroL w) (RL_line ln0) (Go.WideMaps.keyOf_string_mk Tryz.underlying9 hs)
 rw [hm.2 s] at hv
 rw [hr, RL_inv hv]
theorem put_line {wk W : World} {b k : Nat} {D : DataW Ln} {e : En} {l0 : Ln} (h : W.ownsMap Tryz.prog 9 RL b k D) (hk : k < maxLen) (hs : e.sku.size ≤ maxLen) (hb : Below wk.heap.size wk W) :
  ∃ W', (Instr.mapUpdate 201 (.map (some b)) (.string e.sku) (LV (addL l0 e))).run Tryz.prog W = .ok () W' ∧ RegI wk W' b k D e l0 := by
 obtain ⟨W', hr, ho, hg⟩ := h.update law9 Tryz.underlying201 hk (Go.WideMaps.keyOf_string_mk Tryz.underlying9 hs) (RL_line (addL l0 e))
 exact ⟨W', hr, ho, W, hb, hg⟩
def TSrc (w : World) (ao : Option Addr) (m : Nat) (T : List (List UInt8)) : Prop :=
 T.length = m ∧ ∀ t, t < m → ∃ ad, ao = some ad ∧ w.cell? (ad.add t) = some (encStr (T.getD t []))
theorem TSrc.below {w w' : World} {ao : Option Addr} {m : Nat} {T : List (List UInt8)} (h : TSrc w ao m T) (hb : Below w.heap.size w w') : TSrc w' ao m T := by
 refine ⟨h.1, fun t ht => ?_⟩
 obtain ⟨ad, e, hc⟩ := h.2 t ht
 exact ⟨ad, e, (hb.cell (World.block_lt_of_cell? _ _ hc)).trans hc⟩
theorem GivesK.src {w w' : World} {e : Ending} {T : List (List UInt8)} (h : GivesK w w' e T) : ∃ ao c, e = .returned (.slice ao T.length c) ∧ TSrc w' ao T.length T ∧ Below w.heap.size w w' := by
 obtain ⟨v, rfl, hr, hb⟩ := h
 rcases hr.2 with ⟨h0, h00⟩ | ⟨g, cap, cur, hv, hbg, hgg, hnc, hcm, hcsz, htake⟩
 ·refine ⟨none, 0, by rw [h0, h00], ⟨rfl, fun t ht => ?_⟩, hb⟩
  omega
 ·subst hv
  refine ⟨some ⟨g, 0, none⟩, cap, rfl, ⟨rfl, fun t ht => ⟨_, rfl, ?_⟩⟩, hb⟩
  rw [Addr.add_lit, Nat.zero_add, hr.cellAt t (by omega)]
  simp [List.getD, ht]
theorem OwnL.form {B0 B : Nat} {w w' : World} {ao : Option Addr} {cap : Nat} {acc : List Ln} (O : OwnL B0 B w w' ao cap acc) (ad : Addr) (h : ao = some ad) : ad = ⟨ad.block, 0, none⟩ := by
 subst h
 rcases O.own.2 with ⟨h, _⟩ | ⟨g, cap2, cur, hv, _⟩
 ·cases h
 ·simp only [Value.slice.injEq, Option.some.injEq] at hv
  rw [hv.1]
theorem take_snocL (L : List Ln) (k : Nat) (h : k < L.length) : L.take (k + 1) = L.take k ++ [L.getD k ln0] := by
 rw [List.take_succ_eq_append_getElem h]; simp [List.getD, h]
set_option maxRecDepth 100000 in
set_option maxHeartbeats 8000000 in
theorem lines_any (ao : Option Addr) (n cap : Nat) (L : List En) (w : World) (hS : ESrc w ao n cap L) :
  Calls Tryz.prog 145 #[.slice ao n cap] w fun e w' => GivesL w w' e L := by
 have HS := hide hS
 have HL : Hid (L.length = n) := hS.1
 have hn := hS.2.2.2.2
 clear hS
 have hmm := @run_makeMap Tryz.prog
 go_enter Tryz.func145, Tryz.ntmps145
 go_wp2_with fail
 refine (lcheck_any ao n cap L _ HS.out).mono ?_
 rintro x w1 ⟨rfl, b1⟩
 have B1 := hide b1
 have S1 := hide (HS.out.below b1)
 clear b1
 rcases chk_01 L with h | h
 ·rw [h]
  have HC := hide h
  have HA := hide (chk_all h)
  have hlen := chk_len h
  rw [HL.out] at hlen
  clear h
  go_wp2_with fail
  go_loopw [19] (fun i wr => ∃ k : Nat, k ≤ n ∧ i = .int .i64 k ∧ Hid (MapI wr w1.heap.size k (L.take k)) ∧ Hid (Below w1.heap.size w1 wr)) (fun i _ => n - (intOf i).toNat)
  case atStart => exact ⟨0, Nat.zero_le _, rfl, ⟨_, World.ownsMap_made _ _ _ _, mp_start⟩, below_new _ _⟩
  case round =>
   obtain ⟨k, hk, rfl, HM, HB⟩ := hrel
   by_cases hlt : k < n
   ·obtain ⟨ad, rfl, A0⟩ := (S1.out.below HB.out).at k hlt
    have hld := run_ld28 A0
    have HT1 := hide (take_snoc L k (by rw [HL.out]; exact hlt))
    have hsk := HS.out.sku k hlt
    have hqe := HA.out (L.getD k en0) (by rw [show L.getD k en0 = L[k]'(by rw [HL.out]; exact hlt) by simp [List.getD, HL.out, hlt]]; exact List.getElem_mem _)
    obtain ⟨e, He⟩ : ∃ e, Hid (L.getD k en0 = e) := ⟨_, rfl⟩
    rw [He.out] at hld A0 HT1 hsk hqe
    obtain ⟨wk, hst, X1, B1', Z1⟩ := made wr e wr.heap.size rfl
    have HX := hide X1
    have HBK := hide (HB.out.trans (B1'.mono HB.out.size))
    obtain ⟨D, hown, hmp⟩ := HM.out
    obtain ⟨l0, Hl0⟩ : ∃ l0, Hid (lineOf (L.take k) e.sku = l0) := ⟨_, rfl⟩
    have hok : AllOk (L.take k) := fun x hx => HA.out x (List.mem_of_mem_take hx)
    have hbd := line_bd (L.take k) hok e.sku
    have htl : (L.take k).length = k := by rw [List.length_take, HL.out]; omega
    rw [Hl0.out, htl] at hbd
    have HQ : Hid ((0 ≤ l0.qty ∧ l0.qty ≤ 16000000000000000) ∧ (0 ≤ l0.parts ∧ l0.parts ≤ 16000000000) ∧ (1 ≤ e.qty ∧ e.qty ≤ 1000000)) := ⟨by omega, by omega, hqe⟩
    have hownk := owns_below hown B1' hown.lt
    have HLK : Hid (∀ W, Below wk.heap.size wk W → (Instr.lookup 201 (.map (some w1.heap.size)) (.string e.sku) false).run Tryz.prog W = .ok (LV l0) W) := fun W hW => by
     have := look_line (owns_below hownk hW hownk.lt) hmp e.sku hsk
     rwa [Hl0.out] at this
    have HUP : Hid (∀ W, Below wk.heap.size wk W → ∃ W', (Instr.mapUpdate 201 (.map (some w1.heap.size)) (.string e.sku) (LV (addL l0 e))).run Tryz.prog W = .ok () W' ∧ RegI wk W' w1.heap.size k D e l0) := fun W hW =>
     put_line (owns_below hownk hW hownk.lt) (by unfold maxLen; omega) hsk hW
    have HMP : Hid (Mp (D.put (.string e.sku.data.toList) (.held (addL l0 e))) (L.take k ++ [e])) := by have := mp_step hmp hown.isMap e; rw [Hl0.out] at this; exact this
    clear X1 B1' A0 Z1 hown hmp hok hbd htl hsk hqe hownk
    go_wp2_with fail
    clear hst hld
    obtain ⟨ex, Hex⟩ : ∃ ex, Hid (ex = [Value.map (some w1.heap.size), .pointer (some ⟨wr.heap.size, 2, none⟩), .string e.sku, .map (some w1.heap.size), .pointer (some ⟨wr.heap.size, 2, none⟩), .string e.sku, LV l0, EV e, LV (addL l0 e)]) := ⟨_, rfl⟩
    refine wp_region_inv (by kernel_rfl) (fun l x W => ∃ v0 v1 v2 v3 v4 v5 v6 v7 v8, x = { tmps := #[Value.slice (some ad) n cap, undef, Value.slice none 0 0, Value.int IntKind.i64 0, Value.int IntKind.i64 0, Value.map (some w1.heap.size), undef, Value.pointer (some { block := wr.heap.size, off := 0 }), undef, undef, undef, Value.slice (some ad) n cap, Value.int IntKind.i64 0, Value.int IntKind.i64 0, Value.bool false, undef, Value.map (some w1.heap.size), Value.slice (some ad) n cap, Value.int IntKind.i64 ↑n, Value.int IntKind.i64 ↑k, Value.bool true, Value.pointer (some (ad.add (k * 4))), EV e, v0, v1, v2, v3, v4, v5, v6, v7, v8, u32, undef, undef, undef, undef, undef, undef, undef, undef, undef, undef, undef, undef, undef, undef, undef, undef], defers := [] } ∧ VI 10 ex l [v0, v1, v2, v3, v4, v5, v6, v7, v8] ∧ (l.getD 9 false = false → Below wk.heap.size wk W) ∧ (l.getD 9 false = true → (∀ i, i < 9 → l.getD i false = true) ∧ RegI wk W w1.heap.size k D e l0)) ?_ ?_ ?_ ?_
    ·exact ⟨u23, u24, u25, u26, u27, u28, u29, u30, u31, rfl, VI.start 10 ex _ (by rw [Hex.out]; rfl), fun _ => ⟨rfl, rfl, rfl, Nat.le_refl _, fun _ _ => rfl⟩, (fun h => by rw [rep_false] at h; cases h)⟩
    ·rintro l x W ⟨v0, v1, v2, v3, v4, v5, v6, v7, v8, rfl, T, _, _⟩
     exact T.sz
    ·rintro l x W ⟨v0, v1, v2, v3, v4, v5, v6, v7, v8, rfl, T, hb, hf⟩ i hi
     obtain ⟨hi1, hi2, hi3⟩ := ready_mem hi
     have hi4 := no_true hi2
     have n9 : l.getD 9 false = false := by
      cases h9 : l.getD 9 false with
      | false => rfl
      | true =>
       by_cases h : i = 9
       ·subst h; rw [hi4] at h9; cases h9
       ·have := (hf h9).1 i (by have h' : i < 10 := hi1; omega); rw [hi4] at this; cases this
     have HBW := hide (hb n9)
     have HT := hide T
     have HN9 := hide n9
     clear hb hf
     have hc : i = 0 ∨ i = 1 ∨ i = 2 ∨ i = 3 ∨ i = 4 ∨ i = 5 ∨ i = 6 ∨ i = 7 ∨ i = 8 ∨ i = 9 := by have h : i < 10 := hi1; omega
     rcases hc with rfl | rfl | rfl | rfl | rfl | rfl | rfl | rfl | rfl | rfl
     ·clear hi hi1 hi2 hi3 hi4 T n9
      refine wpOp_step (o := ⟨some 23, .move (.tmp 5), 201, "lines.go:18", #[], none⟩) rfl (fun K hK => ?_)
      go_simp
      exact hK _ _ ⟨Value.map (some w1.heap.size), _, _, _, _, _, _, _, _, rfl, by have h := HT.out.set 0 (by decide); rw [Hex.out] at h ⊢; exact h, fun _ => HBW.out, (fun h => by rw [set_other (by decide), HN9.out] at h; cases h)⟩
     ·clear hi hi1 hi2 hi3 hi4 T n9
      refine wpOp_step (o := ⟨some 24, .fieldAddr 46 (.tmp 7) 1, 0, "lines.go:18", #[], none⟩) rfl (fun K hK => ?_)
      go_simp
      exact hK _ _ ⟨_, Value.pointer (some ⟨wr.heap.size, 2, none⟩), _, _, _, _, _, _, _, rfl, by have h := HT.out.set 1 (by decide); rw [Hex.out] at h ⊢; exact h, fun _ => HBW.out, (fun h => by rw [set_other (by decide), HN9.out] at h; cases h)⟩
     ·have d1 := hi3 _ rfl { on := 1, ground := Ground.data } (by simp) rfl
      have e1 : v1 = Value.pointer (some ⟨wr.heap.size, 2, none⟩) := by have h := HT.out.val 1 (by rw [Hex.out]; simp) d1; rw [Hex.out] at h; exact h
      subst e1
      have c1 : W.cell? ⟨wr.heap.size, 2, none⟩ = some (.string e.sku) := by have h := (HX.out.below HBW.out).at.c2; simpa [Addr.add] using h
      clear hi hi1 hi2 hi3 hi4 T n9
      refine wpOp_step (o := ⟨some 25, .load 9 (.tmp 24), 9, "lines.go:18", #[⟨1, .data⟩], none⟩) rfl (fun K hK => ?_)
      go_simp
      exact hK _ _ ⟨_, _, Value.string e.sku, _, _, _, _, _, _, rfl, by have h := HT.out.set 2 (by decide); rw [Hex.out] at h ⊢; exact h, fun _ => HBW.out, (fun h => by rw [set_other (by decide), HN9.out] at h; cases h)⟩
     ·clear hi hi1 hi2 hi3 hi4 T n9
      refine wpOp_step (o := ⟨some 26, .move (.tmp 5), 201, "lines.go:18", #[], none⟩) rfl (fun K hK => ?_)
      go_simp
      exact hK _ _ ⟨_, _, _, Value.map (some w1.heap.size), _, _, _, _, _, rfl, by have h := HT.out.set 3 (by decide); rw [Hex.out] at h ⊢; exact h, fun _ => HBW.out, (fun h => by rw [set_other (by decide), HN9.out] at h; cases h)⟩
     ·clear hi hi1 hi2 hi3 hi4 T n9
      refine wpOp_step (o := ⟨some 27, .fieldAddr 46 (.tmp 7) 1, 0, "lines.go:18", #[], none⟩) rfl (fun K hK => ?_)
      go_simp
      exact hK _ _ ⟨_, _, _, _, Value.pointer (some ⟨wr.heap.size, 2, none⟩), _, _, _, _, rfl, by have h := HT.out.set 4 (by decide); rw [Hex.out] at h ⊢; exact h, fun _ => HBW.out, (fun h => by rw [set_other (by decide), HN9.out] at h; cases h)⟩
     ·have d4 := hi3 _ rfl { on := 4, ground := Ground.data } (by simp) rfl
      have e4 : v4 = Value.pointer (some ⟨wr.heap.size, 2, none⟩) := by have h := HT.out.val 4 (by rw [Hex.out]; simp) d4; rw [Hex.out] at h; exact h
      subst e4
      have c1 : W.cell? ⟨wr.heap.size, 2, none⟩ = some (.string e.sku) := by have h := (HX.out.below HBW.out).at.c2; simpa [Addr.add] using h
      clear hi hi1 hi2 hi3 hi4 T n9
      refine wpOp_step (o := ⟨some 28, .load 9 (.tmp 27), 9, "lines.go:18", #[⟨4, .data⟩], none⟩) rfl (fun K hK => ?_)
      go_simp
      exact hK _ _ ⟨_, _, _, _, _, Value.string e.sku, _, _, _, rfl, by have h := HT.out.set 5 (by decide); rw [Hex.out] at h ⊢; exact h, fun _ => HBW.out, (fun h => by rw [set_other (by decide), HN9.out] at h; cases h)⟩
     ·have d3 := hi3 _ rfl { on := 3, ground := Ground.data } (by simp) rfl
      have e3 : v3 = Value.map (some w1.heap.size) := by have h := HT.out.val 3 (by rw [Hex.out]; simp) d3; rw [Hex.out] at h; exact h
      subst e3
      have d5 := hi3 _ rfl { on := 5, ground := Ground.data } (by simp) rfl
      have e5 : v5 = Value.string e.sku := by have h := HT.out.val 5 (by rw [Hex.out]; simp) d5; rw [Hex.out] at h; exact h
      subst e5
      have hlk := HLK.out W HBW.out
      clear hi hi1 hi2 hi3 hi4 T n9
      refine wpOp_step (o := ⟨some 29, .lookup 201 (.tmp 26) (.tmp 28) false, 53, "lines.go:18", #[⟨3, .data⟩, ⟨5, .data⟩], none⟩) rfl (fun K hK => ?_)
      go_simp
      exact hK _ _ ⟨_, _, _, _, _, _, LV l0, _, _, rfl, by have h := HT.out.set 6 (by decide); rw [Hex.out] at h ⊢; exact h, fun _ => HBW.out, (fun h => by rw [set_other (by decide), HN9.out] at h; cases h)⟩
     ·have hl := run_ld28 (HX.out.below HBW.out).at
      clear hi hi1 hi2 hi3 hi4 T n9
      refine wpOp_step (o := ⟨some 30, .load 46 (.tmp 7), 46, "lines.go:18", #[], none⟩) rfl (fun K hK => ?_)
      go_simp
      exact hK _ _ ⟨_, _, _, _, _, _, _, EV e, _, rfl, by have h := HT.out.set 7 (by decide); rw [Hex.out] at h ⊢; exact h, fun _ => HBW.out, (fun h => by rw [set_other (by decide), HN9.out] at h; cases h)⟩
     ·have d6 := hi3 _ rfl { on := 6, ground := Ground.data } (by simp) rfl
      have e6 : v6 = LV l0 := by have h := HT.out.val 6 (by rw [Hex.out]; simp) d6; rw [Hex.out] at h; exact h
      subst e6
      have d7 := hi3 _ rfl { on := 7, ground := Ground.data } (by simp) rfl
      have e7 : v7 = EV e := by have h := HT.out.val 7 (by rw [Hex.out]; simp) d7; rw [Hex.out] at h; exact h
      subst e7
      clear hi hi1 hi2 hi3 hi4 T n9
      refine wpOp_step (o := ⟨some 31, .call ⟨.value (.func 48), #[.tmp 29, .tmp 30], #[53, 46]⟩, 53, "lines.go:18", #[⟨6, .data⟩, ⟨7, .data⟩], none⟩) rfl (fun K hK => ?_)
      go_simp
      go_wp2_with fail
      refine (with_any l0 e _ HQ.out.1 HQ.out.2.1 HQ.out.2.2).mono ?_
      rintro y w' ⟨rfl, b'⟩
      exact hK _ _ ⟨_, _, _, _, _, _, _, _, LV (addL l0 e), rfl, by have h := HT.out.set 8 (by decide); rw [Hex.out] at h ⊢; exact h, fun _ => HBW.out.trans (b'.mono HBW.out.size), (fun h => by rw [set_other (by decide), HN9.out] at h; cases h)⟩
     ·have d0 := hi3 _ rfl { on := 0, ground := Ground.data } (by simp) rfl
      have e0 : v0 = Value.map (some w1.heap.size) := by have h := HT.out.val 0 (by rw [Hex.out]; simp) d0; rw [Hex.out] at h; exact h
      subst e0
      have d2 := hi3 _ rfl { on := 2, ground := Ground.data } (by simp) rfl
      have e2 : v2 = Value.string e.sku := by have h := HT.out.val 2 (by rw [Hex.out]; simp) d2; rw [Hex.out] at h; exact h
      subst e2
      have d8 := hi3 _ rfl { on := 8, ground := Ground.data } (by simp) rfl
      have e8 : v8 = LV (addL l0 e) := by have h := HT.out.val 8 (by rw [Hex.out]; simp) d8; rw [Hex.out] at h; exact h
      subst e8
      have hall : ∀ i, i < 9 → l.getD i false = true := fun i h => by
       have hc : i = 0 ∨ i = 1 ∨ i = 2 ∨ i = 3 ∨ i = 4 ∨ i = 5 ∨ i = 6 ∨ i = 7 ∨ i = 8 := by omega
       rcases hc with rfl | rfl | rfl | rfl | rfl | rfl | rfl | rfl | rfl
       ·exact hi3 _ rfl { on := 0, ground := Ground.phase } (by simp) rfl
       ·exact hi3 _ rfl { on := 1, ground := Ground.phase } (by simp) rfl
       ·exact hi3 _ rfl { on := 2, ground := Ground.phase } (by simp) rfl
       ·exact hi3 _ rfl { on := 3, ground := Ground.phase } (by simp) rfl
       ·exact hi3 _ rfl { on := 4, ground := Ground.phase } (by simp) rfl
       ·exact hi3 _ rfl { on := 5, ground := Ground.phase } (by simp) rfl
       ·exact hi3 _ rfl { on := 6, ground := Ground.phase } (by simp) rfl
       ·exact hi3 _ rfl { on := 7, ground := Ground.phase } (by simp) rfl
       ·exact hi3 _ rfl { on := 8, ground := Ground.phase } (by simp) rfl
      have HALL := hide hall
      obtain ⟨W', hup, hR⟩ := HUP.out W HBW.out
      have HR := hide hR
      clear hR hi hi1 hi2 hi3 hi4 T n9 hall d0 d2 d8
      refine wpOp_step (o := ⟨none, .mapUpdate 201 (.tmp 23) (.tmp 25) (.tmp 31), 0, "lines.go:18", #[⟨0, .data⟩, ⟨2, .data⟩, ⟨8, .data⟩, ⟨8, .chain⟩, ⟨0, .phase⟩, ⟨1, .phase⟩, ⟨2, .phase⟩, ⟨3, .phase⟩, ⟨4, .phase⟩, ⟨5, .phase⟩, ⟨6, .phase⟩, ⟨7, .phase⟩, ⟨8, .phase⟩], none⟩) rfl (fun K hK => ?_)
      go_simp
      exact hK _ _ ⟨_, _, _, _, _, _, _, _, _, rfl, by have h := HT.out.set 9 (by decide); rw [Hex.out] at h ⊢; exact h, (fun h => by rw [set_same (by rw [HT.out.sz]; decide)] at h; cases h), fun _ => ⟨fun i hi => by rw [set_other (by omega)]; exact HALL.out i hi, HR.out⟩⟩
    ·rintro l x W ⟨v0, v1, v2, v3, v4, v5, v6, v7, v8, rfl, T, hb, hf⟩ hnil
     have h9 := ready_done (by kernel_rfl) T.sz hnil 9 (by decide)
     obtain ⟨_, hR⟩ := hf h9
     have hM := hR.own
     have hBB := hR.back HBK.out
     have HM2 : Hid (MapI W w1.heap.size (k + 1) (L.take (k + 1))) := by show MapI _ _ _ _; rw [HT1.out]; exact ⟨_, hM, HMP.out⟩
     have HB2 : Hid (Below w1.heap.size w1 W) := hBB
     clear T hb hf hnil h9 hR hM hBB
     go_wp2_with fail
     go_roundw
     case rel => exact ⟨k + 1, by omega, by go_num, HM2, HB2⟩
     case measure => simp [intOf]; omega
   ·obtain rfl : k = n := by omega
    have htk : L.take k = L := List.take_of_length_le (by rw [HL.out]; exact Nat.le_refl _)
    obtain ⟨D, hown, hmp⟩ := HM.out
    rw [htk] at hmp
    have HO := hide hown
    have HMP := hide hmp
    have hsz := hown.size_le
    have HZ : Hid (Maps.size D ≤ maxLen ∧ Maps.size D * 16 ≤ 140737488355328) := ⟨by unfold maxLen; omega, by omega⟩
    clear hown hmp hsz htk HM
    go_wp2_with fail
    refine (keys_any _ _).mono ?_
    rintro y w2 ⟨rfl, rfl⟩
    go_wp2_with fail
    refine (sortedKeys_any w1.heap.size k D RL wr HO.out HZ.out.1 HZ.out.2).mono ?_
    rintro y w3 ⟨ss, hp, hg⟩
    obtain ⟨a3, c3, rfl, T3, b3⟩ := hg.src
    have HLO := hide (lines_of_keys HO.out law9 Tryz.underlying9 HMP.out HC.out hp)
    have hTl : (ss.mergeSort leB).length ≤ k := by
     have e1 := ((List.mergeSort_perm ss leB).trans hp).length_eq
     have e2 : (strKeys D).length = Maps.size D := by
      obtain ⟨es, hD⟩ := HO.out.isMap
      subst hD
      simp [strKeys, Maps.size]
     have e3 := HO.out.size_le
     omega
    obtain ⟨T, HT⟩ : ∃ T, Hid (ss.mergeSort leB = T) := ⟨_, rfl⟩
    rw [HT.out] at T3 HLO hTl ⊢
    have HT3 := hide T3
    have HB3 : Hid (Below w1.heap.size w1 w3) := (HB.out.trans ((below_new wr _).mono HB.out.size)).trans (b3.mono (by simp; have := HB.out.size; omega))
    have HO3 : Hid (w3.ownsMap Tryz.prog 9 RL w1.heap.size k D) := owns_below (HO.out.alloc _) b3 (by simp; have := HO.out.lt; omega)
    obtain ⟨m, Hm⟩ : ∃ m, Hid (T.length = m) := ⟨_, rfl⟩
    rw [Hm.out] at hTl ⊢
    have HTL : Hid (∀ j, j < m → (T.getD j []).length ≤ maxLen) := fun j hj => by
     refine strKeys_le HO.out Tryz.underlying9 _ (((List.mergeSort_perm ss leB).trans hp).mem_iff.1 ?_)
     rw [HT.out, show T.getD j [] = T[j]'(by rw [Hm.out]; exact hj) by simp [List.getD, Hm.out, hj]]
     exact List.getElem_mem _
    clear T3 b3 hg hp
    obtain ⟨R, HR⟩ : ∃ R, Hid (T.map (fun x => lineOf L ⟨x.toArray⟩) = R) := ⟨_, rfl⟩
    rw [HR.out] at HLO
    have HRl : Hid (R.length = m) := by show _ = _; rw [← HR.out, List.length_map, Hm.out]
    go_wp2_with fail
    go_loopw [8, 37] (fun v i wr2 => ∃ (j : Nat) (ap : Option Addr) (c : Nat), j ≤ m ∧ v = .slice ap j c ∧ i = .int .i64 j ∧ Hid (OwnL w3.heap.size w3.heap.size w3 wr2 ap c (R.take j))) (fun _ i _ => m - (intOf i).toNat)
    case atStart => exact ⟨0, none, 0, Nat.zero_le _, rfl, rfl, OwnL.nil (Below.refl _ _) (Nat.le_refl _) (Nat.le_refl _)⟩
    case round =>
     obtain ⟨j, ap, c, hj, rfl, rfl, HOL⟩ := hrel
     obtain ⟨acc, Hacc⟩ : ∃ acc, Hid (R.take j = acc) := ⟨_, rfl⟩
     rw [Hacc.out] at HOL
     have hal : acc.length = j := by rw [← Hacc.out, List.length_take, HRl.out]; omega
     by_cases hjl : j < m
     ·obtain ⟨ad3, rfl, hc3⟩ := (HT3.out.below HOL.out.below).2 j (by rw [Hm.out]; exact hjl)
      have hsl := HTL.out j hjl
      obtain ⟨s, Hs⟩ : ∃ s : ByteArray, Hid (s = ⟨(T.getD j []).toArray⟩) := ⟨_, rfl⟩
      have hes : encStr (T.getD j []) = .string s := by rw [Hs.out]
      rw [hes] at hc3
      have hss : s.size ≤ maxLen := by rw [Hs.out]; simpa [ByteArray.size] using hsl
      have hlk := look_line (owns_below HO3.out HOL.out.below HO3.out.lt) HMP.out s hss
      obtain ⟨l, Hl⟩ : ∃ l, Hid (lineOf L s = l) := ⟨_, rfl⟩
      rw [Hl.out] at hlk
      have HN : Hid (R.take (j + 1) = acc ++ [l]) := by
       show _ = _
       rw [take_snocL R j (by rw [HRl.out]; exact hjl), Hacc.out, ← HR.out, ← Hl.out, Hs.out]
       simp [List.getD, Hm.out, hjl]
      have O2 := HOL.out
      clear hsl hes hss
      go_wp2_with (at_builtin; refine O2.append l _ rfl (by omega) rfl (.tmp 41) (.tmp 45) rfl j hal rfl rfl ?_; intro g4 c4 w4 O4 hk4)
      go_roundw
      case rel => exact ⟨j + 1, some ⟨g4, 0, none⟩, c4, by omega, by simp, by go_num, by rw [HN.out]; exact O4⟩
      case measure => simp [intOf]; omega
     ·obtain rfl : j = m := by omega
      have HF : Hid (R = acc) := by show _ = _; rw [← Hacc.out, List.take_of_length_le (by rw [HRl.out]; exact Nat.le_refl _)]
      have hs : ∀ l ∈ acc, l.sku.size ≤ maxLen := fun l hl => by
       rw [← HF.out] at hl
       rcases HLO.out with ⟨h, _⟩ | ⟨_, _, _, hmem⟩
       ·exact absurd HC.out h
       ·obtain ⟨e, he, rfl⟩ := (hmem l).1 hl
        rw [line_sku L e he]
        exact HS.out.2.2.2.1 e he
      obtain ⟨S5, F5⟩ := HOL.out.src hs (by omega)
      rw [hal] at S5
      have HS5 := hide S5
      have HF5 := hide F5
      have HF6 := hide HOL.out.form
      clear S5 F5 hs
      have HW := hide ((B1.out.trans (HB3.out.mono B1.out.size)).trans (HOL.out.below.mono (Nat.le_trans B1.out.size HB3.out.size)))
      go_wp2_with fail
      go_ret2
      exact ⟨ap, j, c, acc, 0, rfl, HS5.out, HW.out, fun ad h => ⟨Nat.le_trans (Nat.le_trans B1.out.size HB3.out.size) (HF5.out ad h), HF6.out ad h⟩, by rw [← HF.out]; exact HLO.out⟩
 ·rw [h]
  have HC : Hid (chk L ≠ 0) := by show chk L ≠ 0; rw [h]; decide
  clear h
  go_wp2_with fail
  go_ret2
  exact ⟨none, 0, 0, [], 1, rfl, LSrc.none _, B1.out, (fun ad h => by cases h), Or.inl ⟨HC.out, rfl, rfl⟩⟩
end Go.Proofs.YtmbkmpeongodbaaGreat.K
namespace Go.Proofs.YtmbkmpeongodbaaGreat
open Go.RowKit
attribute [local go_sem ↓] ldP_eq stP_eq ldFa_eq stFa_eq ldRe_eq stRe_eq ldD_eq stD_eq ldQs_eq stQs_eq K.ld28_eq K.st28_eq bldF_eq bldE_eq bldR_eq bsE_eq bsR_eq
attribute [local go_sem] zero_PC cells_PV PC_size fold_PC cells_FaV FaC_size zero_FaC cells_ReV ReC_size cells_QsV QsC_size cells_RV RC_size zero_RC fold_RC run_bldF0 run_bldF1 run_bldF2 run_bldF3 run_bldEd run_bldRp run_bsE run_bsR
theorem full_iff {L : List K.En} {R : List K.Ln} {ln : Int} (h : K.LinesOf L R 0) : FullF L [] ln ↔ ln ≤ (R.length : Int) := by
 constructor
 ·rintro ⟨-, R', h', hl⟩
  rw [(h.unique h').1]; exact hl
 ·exact fun hl => ⟨rfl, R, h, hl⟩
set_option maxRecDepth 100000 in
set_option maxHeartbeats 1600000 in
theorem isFull_any (q : Scn) (ao : Option Addr) (n cap : Nat) (O : List K.En) (w : World) (hQ : ScnOk w q) (hO : K.ESrc w ao n cap O) (hc : K.chk q.L = 0) :
  Calls Tryz.prog 109 #[QsV (mkQ q), .slice ao n cap] w fun e w' => GivB w w' e (FullF q.L O q.ln) := by
 have HX := hide (QsBox_new w (mkQ q))
 have HBK := hide (below_new w (.cells (QsC (mkQ q)) 83))
 have HQ := hide (hQ.below HBK.out)
 have HC := hide hc
 have HL : Hid (O.length = n) := hO.1
 clear hQ hO hc
 obtain ⟨wk, hwk⟩ : ∃ wk, w.alloc (.cells (QsC (mkQ q)) 83) = wk := ⟨_, rfl⟩
 obtain ⟨G, hG⟩ : ∃ G, w.heap.size = G := ⟨_, rfl⟩
 rw [hwk] at HX HBK HQ
 rw [hG] at HX
 by_cases h0 : 0 < n
 ·have h0' : (0 : Int) < (n : Int) := by omega
  have HN : Hid (¬ FullF q.L O q.ln) := fun h => by
   have := HL.out
   rw [h.1] at this
   simp at this
   omega
  go_enter Tryz.func109, Tryz.ntmps109
  go_wp2_with fail
  go_ret
  exact ⟨_, rfl, BIf.no HN.out, HBK.out⟩
 ·obtain rfl : n = 0 := by omega
  have HO0 : Hid (O = []) := List.length_eq_zero_iff.1 HL.out
  have l0 := HX.out.live
  clear h0
  go_enter Tryz.func109, Tryz.ntmps109
  go_wp2_with fail
  clear hwk hG l0
  refine (K.lines_any q.ao q.n q.c q.L _ HQ.out.live).mono ?_
  rintro e w2 ⟨a2, n2, c2, R, er, rfl, S2, b2, -, hR⟩
  have her : er = 0 := by
   rcases hR with ⟨h, -⟩ | ⟨-, h, -⟩
   ·exact absurd HC.out h
   ·exact h
  subst her
  have hl2 : R.length = n2 := S2.1
  have HF : Hid (FullF q.L O q.ln ↔ q.ln ≤ (n2 : Int)) := by
   show _ ↔ _
   rw [HO0.out, full_iff hR, hl2]
  have HB2 := hide (HBK.out.trans (b2.mono HBK.out.size))
  obtain ⟨-, l4, -⟩ := (HX.out.below b2).rest
  clear hR S2 b2 hl2
  by_cases hle : q.ln ≤ (n2 : Int)
  ·have HY := hide (HF.out.2 hle)
   go_wp2_with fail
   go_ret
   exact ⟨_, rfl, BIf.yes HY.out, HB2.out⟩
  ·have HY : Hid (¬ FullF q.L O q.ln) := fun h => hle (HF.out.1 h)
   go_wp2_with fail
   go_ret
   exact ⟨_, rfl, ⟨fun h => absurd (of_decide_eq_true h) (by omega), fun h => absurd h HY.out⟩, HB2.out⟩
set_option maxRecDepth 100000 in
set_option maxHeartbeats 3200000 in
theorem replace_any (q : Scn) (ao : Option Addr) (n cap : Nat) (O : List K.En) (s : ByteArray) (qty : Int) (w : World) (hQ : ScnOk w q) (hO : K.ESrc w ao n cap O) (hc : K.chk O = 0) (hs : s.size ≤ maxLen) :
  Calls Tryz.prog 110 #[QsV (mkQ q), .slice ao n cap, .string s, .int .i64 qty] w fun e w' => DeA w w' e (ReD q.p.P q.r q.ct O s qty) := by
 have b1 := below_new w (.cells (QsC (mkQ q)) 83)
 have b2 := below_new (w.alloc (.cells (QsC (mkQ q)) 83)) (.cells (FaC (mkF fc0)) 36)
 have X2 := FaBox_new (w.alloc (.cells (QsC (mkQ q)) 83)) (mkF fc0)
 rw [World.size_alloc] at X2
 have HX := hide ((QsBox_new w (mkQ q)).below b2)
 have HXf := hide X2
 have HBK := hide (b1.trans (b2.mono b1.size))
 have HQ := hide (hQ.below HBK.out)
 have HO := hide (hO.below HBK.out)
 have HC := hide hc
 have HSs := hide hs
 clear b1 b2 X2 hQ hO hc hs
 obtain ⟨wk, hwk⟩ : ∃ wk, (w.alloc (.cells (QsC (mkQ q)) 83)).alloc (.cells (FaC (mkF fc0)) 36) = wk := ⟨_, rfl⟩
 obtain ⟨G, hG⟩ : ∃ G, w.heap.size = G := ⟨_, rfl⟩
 have HG := hide hG
 rw [hwk] at HX HXf HBK HQ HO
 rw [hG] at HX HXf
 have lp := run_ldP HX.out.past
 obtain ⟨l3, -, l5⟩ := HX.out.rest
 go_enter Tryz.func110, Tryz.ntmps110
 go_wp2_with fail
 clear hwk hG lp l3 l5
 refine (actNext_any q.p q.r q.ct _ HQ.out.p).mono ?_
 rintro e w3 ⟨d, x, rfl, hd, b3⟩
 have HD := hide hd
 obtain ⟨g4, hg4⟩ : ∃ g4, w3.heap.size = g4 := ⟨_, rfl⟩
 obtain ⟨w4, hst, X4, B4, -⟩ := madeD w3 d g4 hg4
 have HB4 := hide (b3.trans (B4.mono b3.size))
 have HXd := hide X4
 clear hd b3 B4 X4
 by_cases hx : x = 0
 rotate_left
 ·have hxb : (x != 0) = true := by simp [hx]
  have HX4 := hide (HXf.out.below HB4.out)
  have t : (stFa (.pointer (some ⟨G + 1, 0, none⟩)) (.agg (FaC (mkF fc0)))).run Tryz.prog w4 = .ok () (w4.setRow (G + 1) (FaC (mkF fc0))) := run_stFa (m' := mkF fc0) HX4.out
  have HE := hide (give_facts (w := w) (f := fc0) (er := x) (ReD q.p.P q.r q.ct O s qty) HX4.out (fc0_ok _) (fc0_new _) (HBK.out.trans (HB4.out.mono HBK.out.size)) (by have := HG.out; omega) ⟨d, x, HD.out, .inl ⟨hx, fc0_no, rfl⟩⟩)
  clear hx
  go_wp2_with fail
  refine bodyPost_ret (res2Fa rfl rfl rfl HE.out.1) rfl ?_
  exact HE.out.2
 ·subst hx
  go_wp2_with fail
  clear hst hg4
  refine (dots_any ao n cap O _ (HO.out.below HB4.out)).mono ?_
  rintro e w5 ⟨b5, ⟨-, p, rfl, S5, n5, c5⟩ | ⟨h, -⟩⟩
  rotate_left
  ·exact absurd HC.out h
  obtain ⟨g6, hg6⟩ : ∃ g6, w5.heap.size = g6 := ⟨_, rfl⟩
  obtain ⟨w6, hst, X6, B6, -⟩ := madeP w5 p g6 hg6
  have HB6 := hide (HB4.out.trans ((b5.trans (B6.mono b5.size)).mono HB4.out.size))
  have ld := run_ldD ((HXd.out.below b5).below B6).at
  have hSk := K.lit_esrc w6 [⟨d.lo, d.hi, s, qty⟩] #[.int .i64 d.lo, .int .i64 d.hi, .string s, .int .i64 qty] rfl 46 1 rfl (by simp; exact HSs.out) (by decide)
  have b7 := below_new w6 (.cells #[.int .i64 d.lo, .int .i64 d.hi, .string s, .int .i64 qty] 46)
  obtain ⟨g7, hg7⟩ : ∃ g7, w6.heap.size = g7 := ⟨_, rfl⟩
  obtain ⟨w7, hw7⟩ : ∃ w7, w6.alloc (.cells #[.int .i64 d.lo, .int .i64 d.hi, .string s, .int .i64 qty] 46) = w7 := ⟨_, rfl⟩
  rw [hw7] at hSk b7
  rw [hg7] at hSk
  have lp := run_ldP (X6.below b7).at
  have HB7 := hide (HB6.out.trans (b7.mono HB6.out.size))
  have HX7 := hide (HXf.out.below HB7.out)
  have t : (stFa (.pointer (some ⟨G + 1, 0, none⟩)) (.agg #[.slice (some ⟨g7, 0, none⟩) 1 1, .slice p.vo p.vn p.vc, .slice p.co p.cn p.cc, .slice none 0 0])).run Tryz.prog w7 = .ok () (w7.setRow (G + 1) (FaC (mkF (fcG (some ⟨g7, 0, none⟩) 1 1 [⟨d.lo, d.hi, s, qty⟩] p)))) := run_stFa (m' := mkF (fcG (some ⟨g7, 0, none⟩) 1 1 [⟨d.lo, d.hi, s, qty⟩] p)) HX7.out
  have hlt : G + 1 < w4.heap.size := (HXf.out.below HB4.out).lt
  have h46 : w4.heap.size ≤ w6.heap.size := Nat.le_trans b5.size B6.size
  have HE := hide (give_facts (w := w) (f := fcG (some ⟨g7, 0, none⟩) 1 1 [⟨d.lo, d.hi, s, qty⟩] p) (er := 0) (ReD q.p.P q.r q.ct O s qty) HX7.out ⟨hSk, (S5.below B6).below b7, RcS.empty _⟩ ⟨fun ad e => by cases e; show G + 1 + 1 ≤ g7; omega, n5.mono (by omega), fun ad e => (by cases e), fun c hc => (by cases hc)⟩ (HBK.out.trans (HB7.out.mono HBK.out.size)) (by have := HG.out; omega) ⟨d, 0, HD.out, .inr ⟨rfl, rfl, rfl, c5, rfl⟩⟩)
  clear S5 n5 b5 c5 X6 B6 hSk b7 hlt h46
  go_wp2_with fail
  refine bodyPost_ret (res2Fa rfl rfl rfl HE.out.1) rfl ?_
  exact HE.out.2
def DeF (w w' : World) (e : Ending) (D : Fc → Int → Prop) : Prop := ∃ f, e = .returned (FaV (mkF f)) ∧ FcOk w' f ∧ FNew w.heap.size f ∧ Below w.heap.size w w' ∧ D f 0
set_option maxRecDepth 100000 in
set_option maxHeartbeats 3200000 in
theorem record_any (s : ByteArray) (a : Pv) (w : World) (hP : PSrc w a) (hs : s.size ≤ maxLen) :
  Calls Tryz.prog 113 #[.string s, PV a] w fun e w' => DeF w w' e (RecD s a.P) := by
 have b1 := below_new w (.cells (PC a) 26)
 have b2 := below_new (w.alloc (.cells (PC a) 26)) (.cells (FaC (mkF fc0)) 36)
 have X2 := FaBox_new (w.alloc (.cells (PC a) 26)) (mkF fc0)
 rw [World.size_alloc] at X2
 have HX := hide ((pbox_new w a).below b2)
 have HXf := hide X2
 have HBK := hide (b1.trans (b2.mono b1.size))
 have HP := hide (hP.below HBK.out)
 have HSs := hide hs
 clear b1 b2 X2 hP hs
 obtain ⟨wk, hwk⟩ : ∃ wk, (w.alloc (.cells (PC a) 26)).alloc (.cells (FaC (mkF fc0)) 36) = wk := ⟨_, rfl⟩
 obtain ⟨G, hG⟩ : ∃ G, w.heap.size = G := ⟨_, rfl⟩
 have HG := hide hG
 rw [hwk] at HX HXf HBK HP
 rw [hG] at HX HXf
 have lp := run_ldP HX.out.at
 go_enter Tryz.func113, Tryz.ntmps113
 go_wp2_with fail
 clear hwk hG lp
 refine (pastEmpty_any a _ HP.out).mono ?_
 rintro e w3 ⟨b, rfl, hb, b3⟩
 have HB3 := hide b3
 have HXp := hide (HX.out.below b3)
 have HX3 := hide (HXf.out.below b3)
 have HP3 := hide (HP.out.below b3)
 have HBf := hide hb
 clear hb b3
 cases b with
 | true =>
  have t : (stFa (.pointer (some ⟨G + 1, 0, none⟩)) (.agg (FaC (mkF fc0)))).run Tryz.prog w3 = .ok () (w3.setRow (G + 1) (FaC (mkF fc0))) := run_stFa (m' := mkF fc0) HX3.out
  have HE := hide (keep_facts (w := w) (f := fc0) HX3.out (fc0_ok _) (fc0_new _) (HBK.out.trans (HB3.out.mono HBK.out.size)) (by have := HG.out; omega))
  have HD : Hid (RecD s a.P fc0 0) := ⟨rfl, .inl ⟨HBf.out.1 rfl, fc0_no⟩⟩
  go_wp2_with fail
  refine bodyPost_ret (res1Fa rfl rfl HE.out.1) rfl ?_
  exact ⟨fc0, rfl, HE.out.2.1, HE.out.2.2.1, HE.out.2.2.2, HD.out⟩
 | false =>
  have lp := run_ldP HXp.out.at
  go_wp2_with fail
  clear lp
  refine (pastNorm_any a _ HP3.out).mono ?_
  rintro e w5 ⟨p, rfl, S5, n5, b5, c5⟩
  have hok : RcOk w5 ⟨s, p⟩ := ⟨S5, HSs.out⟩
  obtain ⟨g7, hg7⟩ : ∃ g7, w5.heap.size = g7 := ⟨_, rfl⟩
  have hSk := rcs_lit w5 65 (ReC (mkR ⟨s, p⟩)) [⟨s, p⟩] rfl g7 1 hg7 rfl (by decide) (by intro r hr; simp at hr; rw [hr]; exact hok)
  have b7 := below_new w5 (.cells (ReC (mkR ⟨s, p⟩)) 65)
  obtain ⟨w7, hw7⟩ : ∃ w7, w5.alloc (.cells (ReC (mkR ⟨s, p⟩)) 65) = w7 := ⟨_, rfl⟩
  rw [hw7] at hSk b7
  have HB7 := hide (HB3.out.trans ((b5.trans (b7.mono b5.size)).mono HB3.out.size))
  have HX7 := hide ((HX3.out.below b5).below b7)
  have t : (stFa (.pointer (some ⟨G + 1, 0, none⟩)) (.agg #[.slice none 0 0, .slice none 0 0, .slice none 0 0, .slice (some ⟨g7, 0, none⟩) 1 1])).run Tryz.prog w7 = .ok () (w7.setRow (G + 1) (FaC (mkF (fcR (some ⟨g7, 0, none⟩) 1 1 [⟨s, p⟩])))) := run_stFa (m' := mkF (fcR (some ⟨g7, 0, none⟩) 1 1 [⟨s, p⟩])) HX7.out
  have hlt : G + 1 < w3.heap.size := HX3.out.lt
  have hsz := b5.size
  have HNE : Hid (¬ EmptyP a.P) := fun h => by have := HBf.out.2 h; cases this
  have HE := hide (keep_facts (w := w) (f := fcR (some ⟨g7, 0, none⟩) 1 1 [⟨s, p⟩]) HX7.out ⟨esrc_none _, PSrc.zero _, hSk⟩ ⟨fun ad e => (by cases e), pnew_zero _, fun ad e => by cases e; show G + 1 + 1 ≤ g7; omega, fun c hc => by simp [fcR] at hc; rw [hc]; exact n5.mono (by omega)⟩ (HBK.out.trans (HB7.out.mono HBK.out.size)) (by have := HG.out; omega))
  have HD : Hid (RecD s a.P (fcR (some ⟨g7, 0, none⟩) 1 1 [⟨s, p⟩]) 0) := ⟨rfl, .inr ⟨HNE.out, rfl, rfl, ⟨s, p⟩, rfl, rfl, c5⟩⟩
  clear S5 n5 b5 c5 hSk b7 hlt hsz hok
  go_wp2_with fail
  refine bodyPost_ret (res1Fa rfl rfl HE.out.1) rfl ?_
  exact ⟨_, rfl, HE.out.2.1, HE.out.2.2.1, HE.out.2.2.2, HD.out⟩
end Go.Proofs.YtmbkmpeongodbaaGreat
