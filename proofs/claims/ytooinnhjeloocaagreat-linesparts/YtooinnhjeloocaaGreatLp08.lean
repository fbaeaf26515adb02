/- RMr PCm Shd -/
import Derived.Test.YtooinnhjeloocaaGreatLp07
import Derived.Shelf.SlSortCmp.NoneTotal
import Derived.Shelf.SlicesQ.Reverse
import Derived.Lib.OwnBridge
import Derived.Test.YtooinnhjeloocaaGreatLp03
import Derived.Shelf.SlSortCmp.WholeK
import Derived.Shelf.SlGeneric
import Derived.Ground.SlsfProg
import Derived.Test.YtooinnhjeloocaaGreatProg
namespace Go.Proofs.YtooinnhjeloocaaGreat
open Go.RowKit Go.Sort

def encR (r : Rn) : List Value := (RC r).toList
theorem encR_len (r : Rn) : (encR r).length = 2 := rfl
/-- the row from ad on holds d, and may be written -/
structure MR (W : World) (ad : Addr) (d : Array Rn) : Prop where
  hk : HoldsK encR 2 W ad.block 0 d
  lt : ad.block < W.heap.size
  ha : ad = ⟨ad.block, 0, none⟩
theorem MR.at {W : World} {ad : Addr} {d : Array Rn} (M : MR W ad d) (i : Nat) (hi : i < d.size) : RnAt W (ad.add (i * 2)) d[i]! := by
  have h : ∀ c, c < 2 → W.cell? ⟨ad.block, i * 2 + c, none⟩ = some (encR d[i]!)[c]! := fun c hc => by
    have := (M.hk.cell hi hc).1
    rwa [Nat.zero_add] at this
  rw [M.ha, Addr.add_lit, Nat.zero_add]
  exact ⟨h 0 (by omega), by rw [Addr.add_lit]; exact h 1 (by omega)⟩
theorem MR.rsrc {W : World} {ad : Addr} {d : Array Rn} (M : MR W ad d) (n c : Nat) (hn : d.size = n) (hc : n ≤ c) (hcm : c ≤ maxLen) (hm : n ≤ 8796093022207) : RSrc W (some ad) n c d.toList := by
  refine ⟨by simpa using hn, fun h => (by cases h), fun ad' h t ht => ?_, hc, hcm, hm⟩
  obtain rfl := Option.some.inj h
  have e : d.toList.getD t rn0 = d[t]! := by
    rw [List.getD, Array.getElem?_toList, Array.getElem?_eq_getElem (by omega), getElem!_pos d t (by omega)]
    rfl
  rw [e]
  exact M.at t (by omega)
theorem OwnR.mr {B0 B : Nat} {w w' : World} {ad : Addr} {cap : Nat} {acc : List Rn} (O : OwnR B0 B w w' (some ad) cap acc) : MR w' ad acc.toArray ∧ B ≤ ad.block ∧ acc.length ≤ cap ∧ cap ≤ maxLen := by
  rcases O.own.2 with ⟨h0, _⟩ | ⟨g, c, cur, hv, hbg, hgg, hnc, hcm, hcsz, htake⟩
  · cases h0
  · simp only [Value.slice.injEq, Option.some.injEq, true_and] at hv
    obtain ⟨rfl, rfl⟩ := hv
    refine ⟨⟨fun j hj => ?_, (Array.getElem?_eq_some_iff.1 hgg).1, rfl⟩, hbg, hnc, hcm⟩
    rw [Sort.size_flatK] at hj
    have hj' : j < acc.length * 2 := by simpa using hj
    refine ⟨?_, by simp [World.frozen?, hgg]⟩
    rw [Nat.zero_add, O.own.cellAt j (by omega), Sort.get_flatK _ _ _ _ hj]
    have e4 := rcs_at acc (j / 2) (j % 2) (by omega) (by omega)
    rw [show j / 2 * 2 + j % 2 = j by omega] at e4
    rw [e4]
    have e5 : acc.toArray[j / 2]! = acc.getD (j / 2) rn0 := by
      rw [getElem!_pos acc.toArray (j / 2) (by simp; omega)]; simp [List.getD, show j / 2 < acc.length by omega]
    rw [e5]
    have : j % 2 = 0 ∨ j % 2 = 1 := by omega
    rcases this with h | h <;> rw [h] <;> rfl
def cmpI (x y : Int) : Int := if x < y then -1 else if y < x then 1 else 0
theorem isNaN_any (x : Int) (w : World) : Calls Tryz.prog 59 #[.int .i64 x] w fun e w' => e = .returned (.bool false) ∧ w' = w := by
  have h : (x != x) = false := by simp
  go_enter Tryz.func59, Tryz.ntmps59
  go_wp2_with fail
  go_ret
  exact ⟨by simp, rfl⟩
theorem cmp_any (x y : Int) (w : World) : Calls Tryz.prog 36 #[.int .i64 x, .int .i64 y] w fun e w' => e = .returned (.int .i64 (cmpI x y)) ∧ w' = w := by
  by_cases h1 : x < y
  · have HC : Hid (cmpI x y = -1) := by show _ = _; unfold cmpI; rw [if_pos h1]
    go_enter Tryz.func36, Tryz.ntmps36
    go_wp2_with (go_at_call 59; refine (isNaN_any _ _).mono ?_; rintro e w' ⟨rfl, rfl⟩)
    go_ret
    exact ⟨ret_int HC.out.symm, rfl⟩
  · by_cases h2 : y < x
    · have HC : Hid (cmpI x y = 1) := by show _ = _; unfold cmpI; rw [if_neg h1, if_pos h2]
      go_enter Tryz.func36, Tryz.ntmps36
      go_wp2_with (go_at_call 59; refine (isNaN_any _ _).mono ?_; rintro e w' ⟨rfl, rfl⟩)
      go_ret
      exact ⟨ret_int HC.out.symm, rfl⟩
    · have HC : Hid (cmpI x y = 0) := by show _ = _; unfold cmpI; rw [if_neg h1, if_neg h2]
      go_enter Tryz.func36, Tryz.ntmps36
      go_wp2_with (go_at_call 59; refine (isNaN_any _ _).mono ?_; rintro e w' ⟨rfl, rfl⟩)
      go_ret
      exact ⟨ret_int HC.out.symm, rfl⟩
def byLo (x y : Rn) : Int := cmpI x.lo y.lo
theorem byLo_lt (x y : Rn) : ltOf byLo x y = decide (x.lo < y.lo) := by
  unfold ltOf byLo cmpI
  by_cases h1 : x.lo < y.lo
  · simp [h1]
  · by_cases h2 : y.lo < x.lo <;> simp [h1, h2]
theorem byLo_swo : SWO (ltOf byLo) where
  irrefl x := by rw [byLo_lt]; simp
  trans x y z h1 h2 := by rw [byLo_lt] at *; simp at *; omega
  ntrans x y z h1 h2 := by rw [byLo_lt] at *; simp at *; omega
/-- draws and new blocks alone -/
def Grew (w w' : World) : Prop := ∃ q os, w' = grow (w.drewN q) os
theorem grew_two (w : World) (a b : Obj) : Grew w ((w.alloc a).alloc b) := by
  refine ⟨0, #[a] ++ #[b], ?_⟩
  rw [alloc_eq_grow (w.alloc a) b, alloc_eq_grow w a, grow_grow]
  rfl
theorem byLo_any (x y : Rn) (w : World) : Calls Tryz.prog 107 #[.agg #[.int .i64 x.lo, .int .i64 x.hi], .agg #[.int .i64 y.lo, .int .i64 y.hi]] w fun e w' => e = .returned (.int .i64 (byLo x y)) ∧ Grew w w' := by
  have HG := hide (grew_two w (.cells #[.int .i64 x.lo, .int .i64 x.hi] 75) (.cells #[.int .i64 y.lo, .int .i64 y.hi] 75))
  obtain ⟨p, Hp⟩ : ∃ p, Hid (byLo x y = p) := ⟨_, rfl⟩
  have HC : Hid (∀ W, Calls Tryz.prog 36 #[.int .i64 x.lo, .int .i64 y.lo] W fun e w' => e = .returned (.int .i64 p) ∧ w' = W) := fun W => by rw [← Hp.out]; exact cmp_any _ _ W
  rw [Hp.out]
  go_enter Tryz.func107, Tryz.ntmps107
  go_wp2_with (go_at_call 36; refine (HC.out _).mono ?_; rintro e w' ⟨rfl, rfl⟩)
  go_ret
  exact ⟨rfl, HG.out⟩
theorem cmpLays (blk size : Nat) (w : World) : CmpLays Tryz.prog 107 #[] encR 2 byLo blk 0 size w :=
  fun _ _ _ _ x y => byLo_any x y _
/-- slices.SortFunc by the runs' beginnings -/
theorem sortFunc_any (ad : Addr) (cap n : Nat) (d : Array Rn) (w : World) (M : MR w ad d) (hn : d.size = n) (hb : n ≤ 8796093022207) :
    Calls Tryz.prog 106 #[.slice (some ad) n cap, .func (.func 107) #[] #[]] w fun e w' => e = .returned (.tuple #[]) ∧ ∃ d', d'.toList.Perm d.toList ∧ d'.toList.Pairwise (fun x y => x.lo ≤ y.lo) ∧ d'.size = n ∧ MR w' ad d' ∧ Below ad.block w w' := by
  subst hn
  have eg : ∀ args w, (callFunc 107 args).run Tryz.prog w = .ok (.enter 107 args) w := enters_of Tryz.func107 (by kernel_rfl) rfl
  have h := AnyQ.slices_SortFunc Tryz.sortR 2 Tryz.isAgg75 Tryz.sizeOf75 encR (fun _ => rfl) (fun x v hv => RC_one x v hv) byLo byLo_swo 107 #[] ad.block 0 cap d w eg (cmpLays ad.block d.size w) M.hk M.lt (by omega)
  rw [← M.ha] at h
  refine Calls.mono h ?_
  rintro e w' ⟨rfl, d', m, os, ⟨hs, _, hp⟩, hsr, rfl⟩
  refine ⟨rfl, d', ?_, ?_, hs, ⟨holdsK_sortWorldK_c encR 2 w ad.block 0 d d' m os M.hk M.lt hs, ?_, M.ha⟩, ?_⟩
  · have e1 : d'.extract 0 d.size = d' := by rw [← hs]; simp
    have e2 : d.extract 0 d.size = d := by simp
    rwa [e1, e2] at hp
  · rw [List.pairwise_iff_getElem]
    intro i j hi hj hij
    have := hsr i j (Nat.zero_le _) hij (by rw [← hs]; simpa using hj)
    rw [byLo_lt] at this
    rw [getElem!_pos d' j (by simpa using hj), getElem!_pos d' i (by simpa using hi)] at this
    simp only [Array.getElem_toList]
    simp at this
    exact this
  · have := M.lt
    show ad.block < ((putRow id (Sort.ahead w m) ad.block 0 (flatK encR 2 d')).heap ++ os).size
    rw [Array.size_append, size_putRow]
    show ad.block < w.heap.size + os.size
    omega
  · have h1 : Below ad.block w (putRow id (Sort.ahead w m) ad.block 0 (flatK encR 2 d')) := Lib.below_putRow (Below.refl _ _) (Nat.le_refl _)
    refine h1.trans ?_
    have hsz : ad.block ≤ (putRow id (Sort.ahead w m) ad.block 0 (flatK encR 2 d')).heap.size := by rw [size_putRow]; exact Nat.le_of_lt M.lt
    show Below ad.block _ (grow (putRow id (Sort.ahead w m) ad.block 0 (flatK encR 2 d')) os)
    generalize putRow id (Sort.ahead w m) ad.block 0 (flatK encR 2 d') = V at hsz
    exact ⟨rfl, rfl, rfl, by show _ ≤ (V.heap ++ os).size; rw [Array.size_append]; omega, fun k hk => by show (V.heap ++ os)[k]? = _; rw [Array.getElem?_append_left (by omega)]⟩
theorem sort0 (ao : Option Addr) (cap : Nat) (w : World) : Calls Tryz.prog 106 #[.slice ao 0 cap, .func (.func 107) #[] #[]] w fun e w' => e = .returned (.tuple #[]) ∧ w' = w := AnyF.slices_SortFunc_none Tryz.sortR ao cap _ w
end Go.Proofs.YtooinnhjeloocaaGreat
namespace Go.Proofs.YtooinnhjeloocaaGreat

def lex {α : Type} (c : α → α → Int) : List α → List α → Int
  | [], [] => 0
  | [], _ :: _ => -1
  | _ :: _, [] => 1
  | x :: s, y :: t => if c x y = 0 then lex c s t else c x y
/-- a total order: -1, 0 or 1 -/
structure Tot {α : Type} (c : α → α → Int) : Prop where
  rng : ∀ x y, c x y = -1 ∨ c x y = 0 ∨ c x y = 1
  neg : ∀ x y, c y x = - c x y
  eq : ∀ x y, c x y = 0 ↔ x = y
  tr : ∀ x y z, c x y ≤ 0 → c y z ≤ 0 → c x z ≤ 0
theorem Tot.lt {α : Type} {c : α → α → Int} (h : Tot c) {x y z : α} (h1 : c x y < 0) (h2 : c y z ≤ 0) : c x z < 0 := by
  have h3 := h.tr x y z (by omega) h2
  by_cases e : c x z = 0
  · have := (h.eq x z).1 e
    subst this
    have := h.neg x y
    omega
  · omega
theorem Tot.lt' {α : Type} {c : α → α → Int} (h : Tot c) {x y z : α} (h1 : c x y ≤ 0) (h2 : c y z < 0) : c x z < 0 := by
  have h3 := h.tr x y z h1 (by omega)
  by_cases e : c x z = 0
  · have := (h.eq x z).1 e
    subst this
    have := h.neg x y
    omega
  · omega
theorem cmpI_tot : Tot cmpI := by
  refine ⟨fun x y => ?_, fun x y => ?_, fun x y => ?_, fun x y z => ?_⟩ <;> unfold cmpI
  · split
    · omega
    · split <;> omega
  · split <;> split <;> (try split) <;> omega
  · split
    · omega
    · split <;> omega
  · intro h1 h2
    split at h1
    · split at h2
      · rw [if_pos (by omega)]; omega
      · split at h2
        · omega
        · rw [if_pos (by omega)]; omega
    · split at h1
      · omega
      · split at h2
        · rw [if_pos (by omega)]; omega
        · split at h2
          · omega
          · rw [if_neg (by omega), if_neg (by omega)]; omega
theorem Tot.lex {α : Type} {c : α → α → Int} (h : Tot c) : Tot (lex c) := by
  refine ⟨?_, ?_, ?_, ?_⟩
  · intro x
    induction x with
    | nil => intro y; cases y <;> simp [Go.Proofs.YtooinnhjeloocaaGreat.lex]
    | cons a s ih =>
      intro y
      cases y with
      | nil => simp [Go.Proofs.YtooinnhjeloocaaGreat.lex]
      | cons b t =>
        simp only [Go.Proofs.YtooinnhjeloocaaGreat.lex]
        split
        · exact ih t
        · exact h.rng a b
  · intro x
    induction x with
    | nil => intro y; cases y <;> simp [Go.Proofs.YtooinnhjeloocaaGreat.lex]
    | cons a s ih =>
      intro y
      cases y with
      | nil => simp [Go.Proofs.YtooinnhjeloocaaGreat.lex]
      | cons b t =>
        simp only [Go.Proofs.YtooinnhjeloocaaGreat.lex]
        have := h.neg a b
        by_cases e : c a b = 0
        · rw [if_pos e, if_pos (by omega)]; exact ih t
        · rw [if_neg e, if_neg (by omega)]; exact this
  · intro x
    induction x with
    | nil => intro y; cases y <;> simp [Go.Proofs.YtooinnhjeloocaaGreat.lex]
    | cons a s ih =>
      intro y
      cases y with
      | nil => simp [Go.Proofs.YtooinnhjeloocaaGreat.lex]
      | cons b t =>
        simp only [Go.Proofs.YtooinnhjeloocaaGreat.lex]
        by_cases e : c a b = 0
        · rw [if_pos e, ih t]
          have := (h.eq a b).1 e
          subst this
          simp
        · rw [if_neg e]
          constructor
          · intro g; exact absurd g e
          · intro g
            have : a = b := by injection g
            exact absurd ((h.eq a b).2 this) e
  · intro x
    induction x with
    | nil =>
      intro y z h1 h2
      cases z with
      | nil => simp [Go.Proofs.YtooinnhjeloocaaGreat.lex]
      | cons d u => simp [Go.Proofs.YtooinnhjeloocaaGreat.lex]
    | cons a s ih =>
      intro y z h1 h2
      cases y with
      | nil => simp [Go.Proofs.YtooinnhjeloocaaGreat.lex] at h1
      | cons b t =>
        cases z with
        | nil => simp [Go.Proofs.YtooinnhjeloocaaGreat.lex] at h2
        | cons d u =>
          simp only [Go.Proofs.YtooinnhjeloocaaGreat.lex] at h1 h2 ⊢
          by_cases e1 : c a b = 0
          · rw [if_pos e1] at h1
            have := (h.eq a b).1 e1
            subst this
            by_cases e2 : c a d = 0
            · rw [if_pos e2] at h2 ⊢; exact ih t u h1 h2
            · rw [if_neg e2] at h2 ⊢; exact h2
          · rw [if_neg e1] at h1
            by_cases e2 : c b d = 0
            · have := (h.eq b d).1 e2
              subst this
              rw [if_neg e1]; exact h1
            · rw [if_neg e2] at h2
              have := h.lt (x := a) (y := b) (z := d) (by omega) h2
              rw [if_neg (by omega)]; omega
/-- first the one, then the other -/
def both {α β γ : Type} (f : α → β) (g : α → γ) (c1 : β → β → Int) (c2 : γ → γ → Int) (x y : α) : Int := if c1 (f x) (f y) = 0 then c2 (g x) (g y) else c1 (f x) (f y)
theorem Tot.both {α β γ : Type} {f : α → β} {g : α → γ} {c1 : β → β → Int} {c2 : γ → γ → Int} (h1 : Tot c1) (h2 : Tot c2) (hi : ∀ x y, f x = f y → g x = g y → x = y) : Tot (both f g c1 c2) := by
  refine ⟨fun x y => ?_, fun x y => ?_, fun x y => ?_, fun x y z => ?_⟩ <;> unfold Go.Proofs.YtooinnhjeloocaaGreat.both
  · split
    · exact h2.rng _ _
    · exact h1.rng _ _
  · have := h1.neg (f x) (f y)
    by_cases e : c1 (f x) (f y) = 0
    · rw [if_pos e, if_pos (by omega)]; exact h2.neg _ _
    · rw [if_neg e, if_neg (by omega)]; exact this
  · by_cases e : c1 (f x) (f y) = 0
    · rw [if_pos e, h2.eq]
      exact ⟨fun k => hi x y ((h1.eq _ _).1 e) k, fun k => by rw [k]⟩
    · rw [if_neg e]
      exact ⟨fun k => absurd k e, fun k => absurd ((h1.eq _ _).2 (by rw [k])) e⟩
  · intro a b
    by_cases e1 : c1 (f x) (f y) = 0
    · rw [if_pos e1] at a
      have q := (h1.eq _ _).1 e1
      rw [q]
      by_cases e2 : c1 (f y) (f z) = 0
      · rw [if_pos e2] at b ⊢; exact h2.tr _ _ _ a b
      · rw [if_neg e2] at b ⊢; exact b
    · rw [if_neg e1] at a
      by_cases e2 : c1 (f y) (f z) = 0
      · have q := (h1.eq _ _).1 e2
        rw [← q, if_neg e1]; exact a
      · rw [if_neg e2] at b
        have := h1.lt (x := f x) (y := f y) (z := f z) (by omega) b
        rw [if_neg (by omega)]; omega
theorem sn_eq {x y : Sn} (h1 : x.rep = y.rep) (h2 : x.lo = y.lo) (h3 : x.hi = y.hi) : x = y := by
  cases x; cases y; simp_all
/-- the order of spans -/
def cmp3 (x y : Sn) : Int := if cmpI x.rep y.rep = 0 then (if cmpI x.lo y.lo = 0 then cmpI x.hi y.hi else cmpI x.lo y.lo) else cmpI x.rep y.rep
theorem cmp3_tot : Tot cmp3 := by
  have h : Tot (both (fun x : Int × Int × Int => x.1) (fun x => x.2) cmpI (both (fun x : Int × Int => x.1) (fun x => x.2) cmpI cmpI)) :=
    Tot.both cmpI_tot (Tot.both cmpI_tot cmpI_tot (fun x y h1 h2 => Prod.ext h1 h2)) (fun x y h1 h2 => Prod.ext h1 h2)
  have e : ∀ x y, cmp3 x y = both (fun x : Int × Int × Int => x.1) (fun x => x.2) cmpI (both (fun x : Int × Int => x.1) (fun x => x.2) cmpI cmpI) (x.rep, x.lo, x.hi) (y.rep, y.lo, y.hi) := fun x y => rfl
  refine ⟨fun x y => ?_, fun x y => ?_, fun x y => ?_, fun x y z => ?_⟩
  · rw [e]; exact h.rng _ _
  · rw [e, e]; exact h.neg _ _
  · rw [e, h.eq]
    constructor
    · intro g
      simp only [Prod.mk.injEq] at g
      exact sn_eq g.1 g.2.1 g.2.2
    · intro g; rw [g]
  · rw [e, e, e]; exact h.tr _ _ _
/-- the order of pasts in form -/
def cmpP (P Q : Pst) : Int := if lex cmpI P.vec Q.vec = 0 then lex cmp3 P.cloud Q.cloud else lex cmpI P.vec Q.vec
theorem cmpP_tot : Tot cmpP := Tot.both (f := Pst.vec) (g := Pst.cloud) cmpI_tot.lex cmp3_tot.lex (fun x y h1 h2 => by cases x; cases y; simp_all)
/-- the first k alike -/
theorem lex_drop {α : Type} {c : α → α → Int} (hc : Tot c) (A B : List α) : ∀ k, A.take k = B.take k → k ≤ A.length → k ≤ B.length → lex c A B = lex c (A.drop k) (B.drop k)
  | 0, _, _, _ => rfl
  | k + 1, h, h1, h2 => by
    cases A with
    | nil => simp at h1
    | cons a s =>
      cases B with
      | nil => simp at h2
      | cons b t =>
        simp only [List.take_succ_cons, List.cons.injEq] at h
        obtain ⟨rfl, h⟩ := h
        have e := (hc.eq a a).2 rfl
        rw [Go.Proofs.YtooinnhjeloocaaGreat.lex, if_pos e]
        exact lex_drop hc s t k h (by simpa using h1) (by simpa using h2)
end Go.Proofs.YtooinnhjeloocaaGreat
namespace Go.Proofs
open Go.Shelf
def Tryz.sortD_ren : Go.Shelf.Ren := ⟨fun | 6 => 41 | 15 => 61 | 14 => 62 | 28 => 79 | 29 => 80 | 20 => 81 | 21 => 82 | 22 => 83 | 23 => 84 | 24 => 85 | 25 => 86 | 26 => 87 | 27 => 88 | 46 => 102 | 47 => 98 | 48 => 99 | 49 => 103 | 50 => 104 | 57 => 112 | n => n, fun | 22 => 51 | 24 => 28 | 25 => 70 | 3 => 3 | 39 => 91 | 0 => 0 | 53 => 112 | 55 => 114 | 4 => 4 | 46 => 106 | 45 => 105 | 50 => 84 | 5 => 5 | 9 => 9 | 66 => 129 | 70 => 133 | 76 => 141 | 77 => 124 | n => n, fun | n => n⟩
theorem Tryz.sortD : Go.Proofs.SlLaysF0.n6 Tryz.prog Tryz.sortD_ren := {
  mixed := by kernel_rfl
  f6 := ⟨Tryz.f41.name, by decide, Tryz.func41.trans (congrArg some (by kernel_rfl))⟩
  f14 := ⟨Tryz.f62.name, by decide, Tryz.func62.trans (congrArg some (by kernel_rfl))⟩
  f15 := Tryz.func61.trans (congrArg some (by kernel_rfl))
  f20 := ⟨Tryz.f81.name, by decide, Tryz.func81.trans (congrArg some (by kernel_rfl))⟩
  f21 := ⟨Tryz.f82.name, by decide, Tryz.func82.trans (congrArg some (by kernel_rfl))⟩
  f22 := ⟨Tryz.f83.name, by decide, Tryz.func83.trans (congrArg some (by kernel_rfl))⟩
  f23 := ⟨Tryz.f84.name, by decide, Tryz.func84.trans (congrArg some (by kernel_rfl))⟩
  f24 := ⟨Tryz.f85.name, by decide, Tryz.func85.trans (congrArg some (by kernel_rfl))⟩
  f25 := ⟨Tryz.f86.name, by decide, Tryz.func86.trans (congrArg some (by kernel_rfl))⟩
  f26 := ⟨Tryz.f87.name, by decide, Tryz.func87.trans (congrArg some (by kernel_rfl))⟩
  f27 := ⟨Tryz.f88.name, by decide, Tryz.func88.trans (congrArg some (by kernel_rfl))⟩
  f28 := Tryz.func79.trans (congrArg some (by kernel_rfl))
  f29 := Tryz.func80.trans (congrArg some (by kernel_rfl))
  f46 := ⟨Tryz.f102.name, by decide, Tryz.func102.trans (congrArg some (by kernel_rfl))⟩
  f47 := Tryz.func98.trans (congrArg some (by kernel_rfl))
  f48 := Tryz.func99.trans (congrArg some (by kernel_rfl))
  f49 := ⟨Tryz.f103.name, by decide, Tryz.func103.trans (congrArg some (by kernel_rfl))⟩
  f50 := ⟨Tryz.f104.name, by decide, Tryz.func104.trans (congrArg some (by kernel_rfl))⟩
  f57 := ⟨Tryz.f112.name, by decide, Tryz.func112.trans (congrArg some (by kernel_rfl))⟩
  t0 := Tryz.underlying0
  a0 := Tryz.isAgg0
  z0 := Tryz.sizeOf0
  v0 := Tryz.zeroValue0
  t3 := Tryz.underlying3
  a3 := Tryz.isAgg3
  z3 := Tryz.sizeOf3
  v3 := Tryz.zeroValue3
  t4 := Tryz.underlying4
  a4 := Tryz.isAgg4
  z4 := Tryz.sizeOf4
  v4 := Tryz.zeroValue4
  t5 := Tryz.underlying5
  a5 := Tryz.isAgg5
  z5 := Tryz.sizeOf5
  v5 := Tryz.zeroValue5
  t9 := Tryz.underlying9
  a9 := Tryz.isAgg9
  z9 := Tryz.sizeOf9
  v9 := Tryz.zeroValue9
  t22 := Tryz.underlying51
  a22 := Tryz.isAgg51
  z22 := Tryz.sizeOf51
  v22 := Tryz.zeroValue51
  t25 := Tryz.underlying70
  a25 := Tryz.isAgg70
  z25 := Tryz.sizeOf70
  v25 := Tryz.zeroValue70
  t39 := Tryz.underlying91
  a39 := Tryz.isAgg91
  z39 := Tryz.sizeOf91
  v39 := Tryz.zeroValue91
  t45 := Tryz.underlying105
  a45 := Tryz.isAgg105
  z45 := Tryz.sizeOf105
  v45 := Tryz.zeroValue105
  t46 := Tryz.underlying106
  a46 := Tryz.isAgg106
  z46 := Tryz.sizeOf106
  v46 := Tryz.zeroValue106
  t50 := Tryz.underlying84
  a50 := Tryz.isAgg84
  z50 := Tryz.sizeOf84
  v50 := Tryz.zeroValue84
  t53 := Tryz.underlying112
  a53 := Tryz.isAgg112
  z53 := Tryz.sizeOf112
  v53 := Tryz.zeroValue112
  t55 := Tryz.underlying114
  a55 := Tryz.isAgg114
  z55 := Tryz.sizeOf114
  v55 := Tryz.zeroValue114
  t66 := Tryz.underlying129
  a66 := Tryz.isAgg129
  z66 := Tryz.sizeOf129
  v66 := Tryz.zeroValue129
  t70 := Tryz.underlying133
  a70 := Tryz.isAgg133
  z70 := Tryz.sizeOf133
  v70 := Tryz.zeroValue133
  t76 := Tryz.underlying141
  a76 := Tryz.isAgg141
  z76 := Tryz.sizeOf141
  v76 := Tryz.zeroValue141
  t77 := Tryz.underlying124
  a77 := Tryz.isAgg124
  z77 := Tryz.sizeOf124
  v77 := Tryz.zeroValue124 }
end Go.Proofs
