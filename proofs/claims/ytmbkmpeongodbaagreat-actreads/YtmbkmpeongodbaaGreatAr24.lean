/- ORh BCv BAo BMp BMr BPr -/
import Derived.Test.YtmbkmpeongodbaaGreatAr23
import Derived.Deep.CutRange
import Derived.Test.YtmbkmpeongodbaaGreatAr18
import Derived.Test.YtmbkmpeongodbaaGreatAr21
import Derived.Sort.KeysCollected
import Derived.Maps.Ext
import Derived.Maps.OwnOps
import Derived.StringKeys
import Derived.Below
import Derived.Maps.AppendAt
import Derived.Laws.OwnMore
import Derived.Test.YtmbkmpeongodbaaGreatAr07
namespace Go.Proofs.YtmbkmpeongodbaaGreat
open Go.RowKit
attribute [local go_sem ↓] ldP_eq stP_eq ldD_eq stD_eq ldS_eq stS_eq
attribute [local go_sem] cells_PV PC_size zero_SC cells_SV SC_size
variable {w w' w2 W W' : World} {g : Nat}

end Go.Proofs.YtmbkmpeongodbaaGreat
namespace Go.Proofs.YtmbkmpeongodbaaGreat
open Go.RowKit
attribute [local go_sem ↓] ldP_eq stP_eq ldRe_eq stRe_eq ldD_eq stD_eq K.ld28_eq K.st28_eq
attribute [local go_sem] cells_PV PC_size cells_ReV ReC_size K.cells_EV K.EC_size zero_ReC
variable {w w' w2 W W' : World} {g : Nat}
def covB (r : Rc) (e : K.En) : Bool := (decide (r.s.size = 0) || (r.s.toList == e.sku.toList)) && inB r.p.P e
end Go.Proofs.YtmbkmpeongodbaaGreat
namespace Go.Proofs.YtmbkmpeongodbaaGreat
open Go.RowKit
theorem ok_chk {L : List K.En} {n : Nat} (hl : L.length = n) : K.chk L = 0 ↔ K.okN L n = true := by
 unfold K.chk
 rw [hl]
 cases K.okN L n <;> simp
def freeB (R : List Rc) (e : K.En) : Bool := !R.any (fun r => covB r e)
def ApA (w w' : World) (x : Ending) (L : List K.En) (R : List Rc) (n : Nat) : Prop := (K.chk L = 0 ∧ OkR R n ∧ K.GivesEE w w' x (L.filter (freeB R)) 0) ∨ (¬ (K.chk L = 0 ∧ OkR R n) ∧ K.GivesEE w w' x [] 1)
end Go.Proofs.YtmbkmpeongodbaaGreat
namespace Go.Proofs.YtmbkmpeongodbaaGreat
open Go.RowKit Go.Maps Go.Sort
structure Hs where
 o : Option Addr
 n : Nat
 c : Nat
def hs0 : Hs := ⟨none, 0, 0⟩
abbrev HsV (s : Hs) : Value := .slice s.o s.n s.c
def RSl (v : Value) : Option (DataW Hs × List MemPlace) :=
 match v with
 | .slice o n c => some (.held ⟨o, n, c⟩, [])
 | _ => none
theorem RSl_of (s : Hs) : RSl (HsV s) = some (.held s, []) := rfl
theorem RSl_inv {v : Value} {s : Hs} {ps : List MemPlace} (h : RSl v = some (.held s, ps)) : v = HsV s := by
 unfold RSl at h
 split at h
 ·simp at h
  obtain ⟨rfl, _⟩ := h
  rfl
 ·simp at h
def MpS (D : DataW Hs) (K : ByteArray → Prop) (f : ByteArray → Hs) : Prop := (∀ s : ByteArray, has D (.string s.data.toList) = true ↔ K s) ∧ ∀ s : ByteArray, D.atKey (.string s.data.toList) (.held hs0) = .held (f s)
theorem mpS_start : MpS (.map []) (fun _ => False) (fun _ => hs0) := ⟨fun s => by simp [has], fun s => rfl⟩
theorem strS_inj {a b : ByteArray} (h : (Lit.string a.data.toList) = .string b.data.toList) : a = b := by
 cases a; cases b; simp at h; simp [h]
theorem mpS_step {D : DataW Hs} {K : ByteArray → Prop} {f : ByteArray → Hs} (h : MpS D K f) (hm : IsMap D) (k : ByteArray) (x : Hs) (g : ByteArray → Hs) (hg : g k = x) (hf : ∀ s, s ≠ k → g s = f s) :
  MpS (D.put (.string k.data.toList) (.held x)) (fun s => s = k ∨ K s) g := by
 refine ⟨fun s => ?_, fun s => ?_⟩
 ·by_cases hs : k = s
  ·subst hs
   rw [has_put_same hm (k := .string k.data.toList) (show WideAt.IsKeyLit (.string k.data.toList) from trivial)]
   exact ⟨fun _ => .inl rfl, fun _ => rfl⟩
  ·rw [has_put_other (fun he => hs (strS_inj he).symm), h.1 s]
   exact ⟨fun h => .inr h, fun h => h.resolve_left (fun e => hs e.symm)⟩
 ·by_cases hs : k = s
  ·subst hs
   rw [atKey_put_same hm (k := .string k.data.toList) (show WideAt.IsKeyLit (.string k.data.toList) from trivial), hg]
  ·rw [atKey_put_other (fun he => hs (strS_inj he).symm), h.2 s, hf s (fun e => hs e.symm)]
theorem keysS {P : Program} {k : TypeId} {R : Value → Option (DataW Hs × List MemPlace)} {w : World} {b n : Nat} {D : DataW Hs} {S : ByteArray → Prop} {f : ByteArray → Hs} (hown : w.ownsMap P k R b n D) (K : Keyed P k) (hk : P.underlying k = some .string) (hm : MpS D S f)
  {ss : List (List UInt8)} (hp : ss.Perm (strKeys D)) : ss.Nodup ∧ ∀ x : List UInt8, x ∈ ss ↔ S ⟨x.toArray⟩ := by
 obtain ⟨es, hD, hpw, _⟩ := hown.entries K
 obtain ⟨es', hD', hko⟩ := hown.keysOf
 obtain rfl : es = es' := by rw [hD] at hD'; simpa using hD'
 subst hD
 have hks : ∀ p ∈ es, ∃ x, p.1 = .string x := fun p hp => by obtain ⟨v, hv⟩ := hko p hp; obtain ⟨x, _, hx, _⟩ := Maps.keyOf_str hk hv; exact ⟨x, hx⟩
 have hnd : (strKeys (.map es)).Nodup := by
  show (es.map fun p => strOf p.1).Nodup
  refine List.pairwise_map.2 (hpw.imp_of_mem fun {p q} hp' hq' hne e => hne ?_)
  obtain ⟨a, ha⟩ := hks p hp'
  obtain ⟨b, hb⟩ := hks q hq'
  rw [ha, hb] at e ⊢
  exact congrArg _ e
 have hmem : ∀ x, x ∈ strKeys (.map es) ↔ has (.map es) (.string x) = true := fun x => by
  rw [has_eq, List.any_eq_true]
  show x ∈ es.map (fun p => strOf p.1) ↔ _
  rw [List.mem_map]
  constructor
  ·rintro ⟨p, hp', rfl⟩
   obtain ⟨a, ha⟩ := hks p hp'
   exact ⟨p, hp', by rw [ha]; simp [Lit.sameKey, strOf]⟩
  ·rintro ⟨p, hp', hs⟩
   obtain ⟨a, ha⟩ := hks p hp'
   rw [ha] at hs
   exact ⟨p, hp', by rw [ha]; simpa [Lit.sameKey, strOf] using hs⟩
 refine ⟨hp.nodup_iff.2 hnd, fun x => ?_⟩
 rw [hp.mem_iff, hmem x]
 exact hm.1 ⟨x.toArray⟩
end Go.Proofs.YtmbkmpeongodbaaGreat
namespace Go.Proofs.YtmbkmpeongodbaaGreat
open Go.RowKit Go.Maps Go.Sort
variable {P : Program} {kt et : TypeId} {size B : Nat} {w W W2 : World} {b k : Nat} {K : ByteArray → Prop} {f : ByteArray → Hs} {X : ByteArray → List Value}
structure MRo (P : Program) (kt et : TypeId) (size B : Nat) (w W : World) (b k : Nat) (K : ByteArray → Prop) (f : ByteArray → Hs) (X : ByteArray → List Value) : Prop where
 map : ∃ D, W.ownsMap P kt RSl b k D ∧ MpS D K f
 rows : ∀ s, W.ownsRow B et size (HsV (f s)) (f s).n (X s)
 apart : ∀ s t, s ≠ t → ∀ g, (HsV (f s)).ownBlock = some g → (HsV (f t)).ownBlock ≠ some g
 below : Below w.heap.size w W
 hb : w.heap.size ≤ b ∧ b < B ∧ B ≤ W.heap.size
theorem MRo.start (w : World) : MRo P kt et size (w.heap.size + 1) w (w.alloc (.map #[] 0)) w.heap.size 0 (fun _ => False) (fun _ => hs0) (fun _ => []) :=
 ⟨⟨_, World.ownsMap_made _ _ _ _, mpS_start⟩, fun _ => World.ownsRow_nil _ _ _ _, fun _ _ _ g h => (by cases h), (Below.refl _ _).alloc (Nat.le_refl _) _, Nat.le_refl _, Nat.lt_succ_self _, by simp⟩
theorem grown_of_below (h : Below W.heap.size W W2) : W.grownBy W2 none := ⟨h.os, h.tape, h.output, h.size, fun k hk _ => h.block k hk⟩
theorem MRo.later (M : MRo P kt et size B w W b k K f X) (h : Below W.heap.size W W2) : MRo P kt et size B w W2 b k K f X := by
 obtain ⟨D, hD, hM⟩ := M.map
 have hlt : b < W.heap.size := by have := M.hb; omega
 refine ⟨⟨D, ?_, hM⟩, fun s => (M.rows s).kept (grown_of_below h) ?_, M.apart, M.below.trans (h.mono M.below.size), M.hb.1, M.hb.2.1, Nat.le_trans M.hb.2.2 h.size⟩
 ·obtain ⟨es, c, h1, h2⟩ := hD
  exact ⟨es, c, (h.block b hlt).trans h1, h2⟩
 ·cases (HsV (f s)).ownBlock with
  | none => exact .inl rfl
  | some g => exact .inr (by simp)
theorem MRo.look (M : MRo P kt et size B w W b k K f X) (hK : Keyed P kt) (hk : P.underlying kt = some .string) {t st : TypeId} (ht : P.underlying t = some (.map kt st)) (hz : (zeroValue st).run P W = .ok (HsV hs0) W) (s : ByteArray) (hs : s.size ≤ maxLen) :
  (Instr.lookup t (.map (some b)) (.string s) false).run P W = .ok (HsV (f s)) W := by
 obtain ⟨D, hD, hM⟩ := M.map
 obtain ⟨v, ps, hr, hv⟩ := hD.lookup hK ht hz (RSl_of hs0) (Go.WideMaps.keyOf_string_mk hk hs)
 rw [hM.2 s] at hv
 rw [hr, RSl_inv hv]
structure MRm (P : Program) (kt et : TypeId) (size B : Nat) (w W : World) (b k : Nat) (K : ByteArray → Prop) (f : ByteArray → Hs) (X : ByteArray → List Value) (s : ByteArray) (x : Hs) (Y : List Value) : Prop where
 map : ∃ D, W.ownsMap P kt RSl b k D ∧ MpS D K f
 row : W.ownsRow B et size (HsV x) x.n Y
 rows : ∀ t, t ≠ s → W.ownsRow B et size (HsV (f t)) (f t).n (X t)
 apart : ∀ t u, t ≠ u → ∀ g, (HsV (f t)).ownBlock = some g → (HsV (f u)).ownBlock ≠ some g
 apartS : ∀ t, t ≠ s → ∀ g, (HsV (f t)).ownBlock = some g → (HsV x).ownBlock ≠ some g
 below : Below w.heap.size w W
 hb : w.heap.size ≤ b ∧ b < B ∧ B ≤ W.heap.size
theorem MRo.app (M : MRo P kt et size B w W b k K f X) (s : ByteArray) {st ty : TypeId} {i : TypeInfo} {z : Value} {bytes : Nat} (hst : P.underlying st = some (.slice et)) (hi : P.info? et = some i) (hz : i.zero = some z) (hsize : i.size = size) (hby : i.bytes = bytes) (hzs : z.cells.size = size) (hsz : 0 < size)
  (a : Addr) (c : Nat) (news : List Value) (hl : news.length = size) (hnews : ∀ j u, news[j]? = some u → W.cell? (a.add j) = some u) (h1 : ∀ u ∈ news, u.oneCell' = true) (h63 : (f s).n + 1 ≤ maxLen) (hbytes : ((f s).n + 1) * bytes ≤ 140737488355328) :
  ∃ g c2 W2, (Builtin.append_ #[st, st] ty #[HsV (f s), .slice (some a) 1 c]).run P W = .ok (.slice (some ⟨g, 0, none⟩) ((f s).n + 1) c2) W2 ∧ MRm P kt et size B w W2 b k K f X s ⟨some ⟨g, 0, none⟩, (f s).n + 1, c2⟩ (X s ++ news) ∧ ∀ q, q < W.heap.size → (HsV (f s)).ownBlock ≠ some q → W2.heap[q]? = W.heap[q]? := by
 obtain ⟨v', W2, hrun, hown, hgrow, _, hat⟩ := run_append_own_at (P := P) W B st ty et i z size bytes hst hi hz hsize hby hzs hsz (HsV (f s)) (f s).n (X s) (M.rows s) a 1 c news (by omega) hnews h1 h63 hbytes M.hb.2.2
 rcases hown.2 with ⟨h0, h00⟩ | ⟨g, cap2, cur, hv, hbg, hgg, hnc, hcm, hcsz, htake⟩
 ·omega
 ·subst hv
  obtain ⟨D, hD, hM⟩ := M.map
  have hlt : b < W.heap.size := by have := M.hb; omega
  have hrow : ∀ k, (HsV (f s)).ownBlock = some k → B ≤ k := fun k hk => ((M.rows s).lt k hk).1
  refine ⟨g, cap2, W2, hrun, ⟨⟨D, ?_, hM⟩, hown, fun t ht => (M.rows t).kept hgrow ?_, M.apart, fun t ht q hq e => ?_, M.below.grown hgrow M.below.size (fun k hk => by have := hrow k hk; have := M.hb; omega), M.hb.1, M.hb.2.1, Nat.le_trans M.hb.2.2 hgrow.size⟩, fun q hq hn => hgrow.block q hq (fun e => hn e.symm)⟩
  ·obtain ⟨es, c, h1, h2⟩ := hD
   exact ⟨es, c, (hgrow.block b hlt (fun e => by have := hrow b e.symm; have := M.hb; omega)).trans h1, h2⟩
  ·cases ho : (HsV (f t)).ownBlock with
   | none => exact .inl rfl
   | some q => exact .inr (fun e => M.apart t s ht q ho e.symm)
  ·have hq2 := ((M.rows t).lt q hq).2
   rcases hat with h | h
   ·rw [h] at e
    exact M.apart t s ht q hq e
   ·rw [h] at e
    have := Option.some.inj e
    omega
theorem MRm.put {s : ByteArray} {x : Hs} {Y : List Value} (M : MRm P kt et size B w W b k K f X s x Y) (hK : Keyed P kt) (hk : P.underlying kt = some .string) {t st : TypeId} (ht : P.underlying t = some (.map kt st)) (hs : s.size ≤ maxLen) (hn : k < maxLen) :
  ∃ W2, (Instr.mapUpdate t (.map (some b)) (.string s) (HsV x)).run P W = .ok () W2 ∧ MRo P kt et size B w W2 b (k + 1) (fun u => u = s ∨ K u) (fun u => if u = s then x else f u) (fun u => if u = s then Y else X u) ∧ ∀ q, q < W.heap.size → q ≠ b → W2.heap[q]? = W.heap[q]? := by
 obtain ⟨D, hD, hM⟩ := M.map
 have hmap := hD.isMap
 obtain ⟨W2, hr, ho, hg⟩ := hD.update hK ht hn (Go.WideMaps.keyOf_string_mk hk hs) (RSl_of x)
 have hne : ∀ (v : Value) (n : Nat) (xs : List Value), W.ownsRow B et size v n xs → v.ownBlock = none ∨ v.ownBlock ≠ some b := fun v n xs h => by
  cases hv : v.ownBlock with
  | none => exact .inl rfl
  | some q => exact .inr (fun e => by have := (h.lt q hv).1; have := M.hb; have := Option.some.inj e; omega)
 refine ⟨W2, hr, ⟨⟨_, ho, mpS_step hM hmap s x _ (if_pos rfl) (fun u hu => if_neg hu)⟩, fun u => ?_, fun u v huv g hg1 => ?_, M.below.grown hg M.below.size (fun j hj => by cases hj; exact M.hb.1), M.hb.1, M.hb.2.1, Nat.le_trans M.hb.2.2 hg.size⟩, fun q hq hn => hg.block q hq (fun e => hn (Option.some.inj e))⟩
 ·by_cases hu : u = s
  ·simp only [if_pos hu]
   exact M.row.kept hg (hne _ _ _ M.row)
  ·simp only [if_neg hu]
   exact (M.rows u hu).kept hg (hne _ _ _ (M.rows u hu))
 ·by_cases hu : u = s
  ·have hv : ¬ v = s := fun e => huv (hu.trans e.symm)
   simp only [if_pos hu, if_neg hv] at hg1 ⊢
   exact fun e => M.apartS v hv g e hg1
  ·by_cases hv : v = s
   ·simp only [if_neg hu, if_pos hv] at hg1 ⊢
    exact M.apartS u hu g hg1
   ·simp only [if_neg hu, if_neg hv] at hg1 ⊢
    exact M.apart u v huv g hg1
theorem step_appM {W W2 : World} {ops : Array Oper} {o : Oper} {a : Act} {K : Act → World → Prop} {Q : Exit → Act → World → Prop} {E : Prop} {v1 v2 v' : Value} {st : TypeId} (hgd : o.guard = none) (s x : Operand) (ho : o.op = .call { callee := .builtin .append, args := #[s, x], argTypes := #[st, st] })
  (hs : a.eval s = v1) (hx : a.eval x = v2) (hrun : (Builtin.append_ #[st, st] o.type #[v1, v2]).run P W = .ok v' W2) (hK : K (a.put o.dst v') W2) :
  if Region.wanted o (yielded ops a.tmps) = true then Oper.wp P o a W K Q else E := by
 have hw : Region.wanted o (yielded ops a.tmps) = true := by simp [Region.wanted, hgd]
 rw [if_pos hw]
 unfold Oper.wp
 simp [execOp, ho, resolve, invoke, builtin, hs, hx, hrun, Result.andThen]
 exact hK
theorem seq_appM {W W2 : World} {ops : Array Oper} {rest : List Oper} {o : Oper} {a : Act} {Q : Exit → Act → World → Prop} {v1 v2 v' : Value} {st : TypeId} (hgd : o.guard = none) (s x : Operand) (ho : o.op = .call { callee := .builtin .append, args := #[s, x], argTypes := #[st, st] })
  (hs : a.eval s = v1) (hx : a.eval x = v2) (hrun : (Builtin.append_ #[st, st] o.type #[v1, v2]).run P W = .ok v' W2) (hK : wpList P ops Q rest (a.put o.dst v') W2) : wpList P ops Q (o :: rest) a W :=
 wpList_plain hgd fun K hKK => by
  unfold Oper.wp
  simp [execOp, ho, resolve, invoke, builtin, hs, hx, hrun, Result.andThen]
  exact hKK _ _ hK
end Go.Proofs.YtmbkmpeongodbaaGreat
namespace Go.Proofs.YtmbkmpeongodbaaGreat
open Go.RowKit Go.Maps Go.Sort
def pvs (L : List Pv) : List Value := (L.map (fun p => (PC p).toList)).flatten
theorem pvs_append (L R : List Pv) : pvs (L ++ R) = pvs L ++ pvs R := by simp [pvs]
theorem pvs_one (p : Pv) : pvs [p] = (PC p).toList := by simp [pvs]
theorem pvs_length (L : List Pv) : (pvs L).length = L.length * 2 := by
 induction L with
 | nil => rfl
 | cons a L ih => have : pvs (a :: L) = (PC a).toList ++ pvs L := rfl; rw [this, List.length_append, ih]; simp [PC]; omega
theorem pvs_at (L : List Pv) (t j : Nat) (ht : t < L.length) (hj : j < 2) : (pvs L)[t * 2 + j]? = (PC L[t]).toList[j]? := by
 induction L generalizing t with
 | nil => simp at ht
 | cons a L ih =>
  have e : pvs (a :: L) = (PC a).toList ++ pvs L := rfl
  cases t with
  | zero => rw [e, List.getElem?_append_left (by simp [PC]; omega)]; simp
  | succ t =>
   rw [e, List.getElem?_append_right (by simp [PC]; omega)]
   have h := ih t (by simpa using ht)
   have e4 : (t + 1) * 2 + j - (PC a).toList.length = t * 2 + j := by simp [PC]; omega
   rw [e4, h]; simp
theorem pvs_cell (p : Pv) : ∀ v ∈ (PC p).toList, v.oneCell' = true := by
 intro v hv; simp [PC] at hv; rcases hv with rfl | rfl <;> rfl
theorem infoPast : (Tryz.prog.info? 26).map (fun i => (i.zero, i.size, i.bytes)) = some (some (.agg #[.slice none 0 0, .slice none 0 0]), 2, 48) := by kernel_rfl
theorem prow_of {W : World} {B : Nat} {h : Hs} {L : List Pv} (hr : W.ownsRow B 26 2 (HsV h) h.n (pvs L)) (hs : ∀ p ∈ L, PSrc W p) : PRow W h.o h.n L := by
 have hl : L.length = h.n := by have := hr.1; rw [pvs_length] at this; omega
 obtain ⟨o, n, c⟩ := h
 rcases hr.2 with ⟨h0, h00⟩ | ⟨g, cap, cur, hv, hbg, hgg, hnc, hcm, hcsz, htake⟩
 ·refine ⟨hl, fun _ => h00, fun ad e t p hp => ?_, hs⟩
  have := (List.getElem?_eq_some_iff.1 hp).1
  omega
 ·simp only [Value.slice.injEq] at hv
  obtain ⟨rfl, -, rfl⟩ := hv
  refine ⟨hl, fun e => (by cases e), fun ad e t p hp => ?_, hs⟩
  obtain rfl : (⟨g, 0, none⟩ : Addr) = ad := Option.some.inj e
  obtain ⟨ht, hpt⟩ := List.getElem?_eq_some_iff.1 hp
  have hc : ∀ j, j < 2 → W.cell? ⟨g, t * 2 + j, none⟩ = (PC p).toList[j]? := fun j hj => by
   have h1 := World.ownsRow.cellAt hr (t * 2 + j) (by dsimp only at hl ⊢; omega)
   rw [h1, pvs_at L t j ht hj, hpt]
  refine ⟨?_, ?_⟩
  ·rw [Addr.add_lit, Nat.zero_add]
   exact hc 0 (by omega)
  ·rw [Addr.add_lit, Addr.add_lit, Nat.zero_add]
   exact hc 1 (by omega)
theorem mp_app {w W : World} {b B k : Nat} {K : ByteArray → Prop} {f : ByteArray → Hs} {X : ByteArray → List Value} (M : MRo Tryz.prog 9 26 2 B w W b k K f X) (s : ByteArray) (p : Pv) (hn : (f s).n ≤ 2900000000000) :
  ∃ g c2 W2, (Builtin.append_ #[108, 108] 108 #[HsV (f s), .slice (some ⟨W.heap.size, 0, none⟩) 1 1]).run Tryz.prog (W.alloc (.cells (PC p) 26)) = .ok (.slice (some ⟨g, 0, none⟩) ((f s).n + 1) c2) W2 ∧ MRm Tryz.prog 9 26 2 B w W2 b k K f X s ⟨some ⟨g, 0, none⟩, (f s).n + 1, c2⟩ (X s ++ (PC p).toList) ∧ ∀ q, q < W.heap.size → (HsV (f s)).ownBlock ≠ some q → W2.heap[q]? = W.heap[q]? := by
 obtain ⟨i0, hi, hz0, hz1, hz2⟩ := info_parts infoPast
 obtain ⟨g, c2, W2, h1, h2, h3⟩ := (M.later (below_new W (.cells (PC p) 26))).app s (ty := 108) Tryz.underlying108 hi hz0 hz1 hz2 (by simp [Value.cells]) (by decide) ⟨W.heap.size, 0, none⟩ 1 (PC p).toList rfl (fun j u hj => by
  rw [Addr.add_lit, Nat.zero_add, World.cell?_alloc_new]
  simpa using hj) (pvs_cell p) (by unfold maxLen; omega) (by omega)
 exact ⟨g, c2, W2, h1, h2, fun q hq hn => (h3 q (by simp; omega) hn).trans (Below.heap_alloc W _ q hq)⟩
structure OwnP (B : Nat) (w W : World) (h : Hs) (L : List Pv) : Prop where
 own : W.ownsRow B 26 2 (HsV h) h.n (pvs L)
 src : ∀ p ∈ L, PSrc W p
 below : Below w.heap.size w W
 hB : w.heap.size ≤ B ∧ B ≤ W.heap.size
theorem OwnP.nil (w : World) : OwnP w.heap.size w w hs0 [] := ⟨World.ownsRow_nil _ _ _ _, fun p h => (by cases h), Below.refl _ _, Nat.le_refl _, Nat.le_refl _⟩
theorem OwnP.later {B : Nat} {w W W2 : World} {h : Hs} {L : List Pv} (O : OwnP B w W h L) (hb : Below W.heap.size W W2) : OwnP B w W2 h L := by
 refine ⟨O.own.kept (grown_of_below hb) ?_, fun p hp => (O.src p hp).below hb, O.below.trans (hb.mono O.below.size), O.hB.1, Nat.le_trans O.hB.2 hb.size⟩
 cases (HsV h).ownBlock with
 | none => exact .inl rfl
 | some g => exact .inr (by simp)
theorem OwnP.row {B : Nat} {w W : World} {h : Hs} {L : List Pv} (O : OwnP B w W h L) : PRow W h.o h.n L := prow_of O.own O.src
end Go.Proofs.YtmbkmpeongodbaaGreat

