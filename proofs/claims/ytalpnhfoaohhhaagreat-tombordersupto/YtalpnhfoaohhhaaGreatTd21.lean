/- LSame BSm TUa BMp BMr BPr BPg TShg TUc BS1 BLi BSo -/
import Derived.Test.YtalpnhfoaohhhaaGreatTd15
import Derived.Laws.StructEq
import Derived.Test.YtalpnhfoaohhhaaGreatTd20
import Derived.Test.YtalpnhfoaohhhaaGreatTd10
import Derived.Deep.CutRange
import Derived.Test.YtalpnhfoaohhhaaGreatTd16
import Derived.Sort.KeysCollected
import Derived.Maps.Ext
import Derived.Maps.OwnOps
import Derived.StringKeys
import Derived.Below
import Derived.Maps.AppendAt
import Derived.Laws.OwnMore
import Derived.Test.YtalpnhfoaohhhaaGreatTd06
import Derived.Shelf.Spec.SlicesGrow
import Derived.Test.YtalpnhfoaohhhaaGreatProg
import Derived.Test.YtalpnhfoaohhhaaGreatTd18
import Derived.Laws.AppendOwnNone
import Derived.Deep.LoopGhost
import Derived.Test.YtalpnhfoaohhhaaGreatTd00
import Derived.Test.YtalpnhfoaohhhaaGreatTd09
set_option maxHeartbeats 1600000
namespace Go.Proofs.YtalpnhfoaohhhaaGreat.K
open Go.RowKit
attribute [local go_sem ↓] ld28_eq st28_eq
attribute [local go_sem] zero_EC cells_EV
def eqE (x y : En) : Bool := x.rep == y.rep && x.num == y.num && x.sku.toList == y.sku.toList && x.qty == y.qty
theorem run_eq26 (a b c d : Int) (w : World) : (Op.equalIn 9999 32 (.agg #[.int .i64 a, .int .i64 b]) (.agg #[.int .i64 c, .int .i64 d])).run Tryz.prog w = .ok (a == c && b == d) w := by
 have u3 := Tryz.underlying3
 have a3 := Tryz.isAgg3
 have z3 := Tryz.sizeOf3
 have hS : Tryz.prog.underlying 32 = some (.struct (Tryz.prog.fieldsOf 32)) := by kernel_rfl
 have hp : Tryz.prog.stoodInHeld 32 = false := by kernel_rfl
 rw [show (9999 : Nat) = 9998 + 1 from rfl, run_equalIn_struct w 9998 32 _ _ hS hp]
 simp only [Program.fieldsOf, Tryz.underlying32]
 go_simp
 by_cases h1 : a = c <;> by_cases h2 : b = d <;> simp [h1, h2]
theorem run_eq28 (x y : En) (w : World) : (Op.equalIn 10000 36 (.agg (EC x)) (.agg (EC y))).run Tryz.prog w = .ok (eqE x y) w := by
 have u3 := Tryz.underlying3
 have a3 := Tryz.isAgg3
 have z3 := Tryz.sizeOf3
 have u9 := Tryz.underlying9
 have a9 := Tryz.isAgg9
 have z9 := Tryz.sizeOf9
 have a26 := Tryz.isAgg32
 have z26 := Tryz.sizeOf32
 have hS : Tryz.prog.underlying 36 = some (.struct (Tryz.prog.fieldsOf 36)) := by kernel_rfl
 have hp : Tryz.prog.stoodInHeld 36 = false := by kernel_rfl
 obtain ⟨r, m, s, q⟩ := x
 obtain ⟨r', m', s', q'⟩ := y
 have h26 := run_eq26 r m r' m'
 show (Op.equalIn 10000 36 (.agg #[.int .i64 r, .int .i64 m, .string s, .int .i64 q]) (.agg #[.int .i64 r', .int .i64 m', .string s', .int .i64 q'])).run Tryz.prog w = .ok (r == r' && m == m' && s.toList == s'.toList && q == q') w
 rw [show (10000 : Nat) = 9999 + 1 from rfl, run_equalIn_struct w 9999 36 _ _ hS hp]
 simp only [Program.fieldsOf, Tryz.underlying36]
 have h9 : ∀ w, (Op.equalIn 9999 9 (.string s) (.string s')).run Tryz.prog w = .ok (s.toList == s'.toList) w := fun w => run_equalIn_string w 9998 9 s s' Tryz.underlying9
 have h3 : ∀ w, (Op.equalIn 9999 3 (.int .i64 q) (.int .i64 q')).run Tryz.prog w = .ok (q == q') w := fun w => run_equalIn_int w 9998 3 .i64 .i64 q q' Tryz.underlying3
 obtain ⟨D, hD⟩ : ∃ D, 9999 = D := ⟨9999, rfl⟩
 rw [hD] at h26 h9 h3 ⊢
 go_simp
 by_cases e1 : r = r'
 ·by_cases e2 : m = m'
  ·by_cases e3 : s.toList = s'.toList
   ·by_cases e4 : q = q'
    ·simp [e1, e2, e3, e4]
    ·simp [e1, e2, e3, e4]
   ·simp [e1, e2, e3]
  ·simp [e1, e2]
 ·simp [e1]
theorem eqE_self (x : En) : eqE x x = true := by simp [eqE]
attribute [local go_sem ↓] run_eq28
theorem same_any (ao bo : Option Addr) (n cap m cap' : Nat) (L R : List En) (w : World) (hS : ESrc w ao n cap L) (hR : ESrc w bo m cap' R) (hE : L = R) :
  Calls Tryz.prog 39 #[.slice ao n cap, .slice bo m cap'] w fun e w' => e = .returned (.bool true) /\ Below w.heap.size w w' := by
 have HS := hide hS
 have HR := hide hR
 have hn := hS.2.2.2.2
 have hnm : n = m := by rw [<- hS.1, <- hR.1, hE]
 subst hE
 subst hnm
 clear hS hR
 go_enter Tryz.func39, Tryz.ntmps39
 go_wp2_with fail
 go_loopw [5] (fun i wr => ∃ k : Nat, k <= n /\ i = .int .i64 k /\ Hid (Below w.heap.size w wr)) (fun i _ => n - (intOf i).toNat)
 case atStart => exact ⟨0, Nat.zero_le _, rfl, Below.refl _ _⟩
 case round =>
  obtain ⟨k, hk, rfl, HB⟩ := hrel
  by_cases hlt : k < n
  ·obtain ⟨ad, rfl, A0⟩ := (HS.out.below HB.out).at k hlt
   obtain ⟨bd, rfl, A1⟩ := (HR.out.below HB.out).at k hlt
   obtain ⟨e, He⟩ : ∃ e, Hid (L.getD k en0 = e) := ⟨_, rfl⟩
   rw [He.out] at A0 A1
   have l0 : ∀ d os, (ld28 (.pointer (some (ad.add (k * 4))))).run Tryz.prog (Sort.grow (redrawn wr d) os) = .ok (EV e) (Sort.grow (redrawn wr d) os) := fun d os => run_ld28 (A0.on (below_regrown wr d os))
   have l1 : ∀ d os, (ld28 (.pointer (some (bd.add (k * 4))))).run Tryz.prog (Sort.grow (redrawn wr d) os) = .ok (EV e) (Sort.grow (redrawn wr d) os) := fun d os => run_ld28 (A1.on (below_regrown wr d os))
   have hq := eqE_self e
   clear A0 A1
   go_wp2_with fail
   refine wp_region_quiet_below (by kernel_rfl) (by kernel_rfl) ?_
   repeat (with_reducible (refine wpQuiet_step ?_); intro K hK; go_simp; (try rw [if_neg (by unfold undef; simp)]); first | (with_reducible (refine hK _ ?_); clear hK K) | (apply Exists.intro; refine ⟨fun _ => ?_, hK _ ?_⟩; (fail); clear hK K))
   with_reducible (refine wpQuiet_nil ?_)
   intro _ hw'
   obtain ⟨⟨dq, osq⟩, hw''⟩ := hw'
   subst hw''
   have HBE : Hid (Below w.heap.size w (Sort.grow (redrawn wr dq) osq)) := HB.out.trans ((below_regrown wr dq osq).mono HB.out.size)
   go_wp2_with fail
   go_roundw
   case rel => exact ⟨k + 1, by omega, by go_num, HBE⟩
   case measure => simp [intOf]; omega
  ·go_wp2_with fail
   go_ret
   exact ⟨rfl, HB.out⟩
end Go.Proofs.YtalpnhfoaohhhaaGreat.K
namespace Go.Proofs.YtalpnhfoaohhhaaGreat
section
open Go.RowKit
attribute [local go_sem ↓] K.ld28_eq K.st28_eq K.run_eq28 ldP_eq stP_eq ldRe_eq stRe_eq
attribute [local go_sem] K.zero_EC K.cells_EV cells_PV PC_size
theorem list_ext {s u : ByteArray} (h : s.toList = u.toList) : s = u := by
 rw [ByteArray.toList_eq, ByteArray.toList_eq] at h
 exact ByteArray.ext (Array.ext' h)
theorem below_drewB {n : Nat} {w W : World} (h : Below n w W) : Below n w W.drew := ⟨h.os, h.tape, h.output, h.size, h.block⟩
abbrev Rp := ByteArray × Pst
def plR (L : List Rc) : List Rp := L.map fun r => (r.s, r.p.P)
theorem plR_len (L : List Rc) : (plR L).length = L.length := by simp [plR]
theorem plR_snoc (L : List Rc) (r : Rc) : plR (L ++ [r]) = plR L ++ [(r.s, r.p.P)] := by simp [plR]
theorem plR_take (L : List Rc) (k : Nat) (h : k < L.length) : plR (L.take (k + 1)) = plR (L.take k) ++ [((L.getD k rc0).s, (L.getD k rc0).p.P)] := by
 rw [take_snocR L k h, plR_snoc]
theorem ReAt.flat {w : World} {b o : Nat} {r : Rc} (A : ReAt w ⟨b, o, none⟩ (mkR r)) : w.cell? ⟨b, o, none⟩ = some (.string r.s) /\ PAt w ⟨b, o + 1, none⟩ r.p := by
 obtain ⟨h0, h1, h2⟩ := A
 rw [Addr.add_lit] at h1 h2
 refine ⟨h0, h1, ?_⟩
 rw [Addr.add_lit]
 exact h2
theorem RcS.spot {w : World} {ad : Addr} {n c : Nat} {L : List Rc} (h : RcS w (some ad) n c L) (hn : 0 < n) : ∃ b o, ad = ⟨b, o, none⟩ := by
 obtain ⟨ad0, e0, A00⟩ := h.at 0 hn
 obtain rfl := Option.some.inj e0
 have hsp := World.cell?_spot A00.c0
 rw [Nat.zero_mul, add_zero] at hsp
 obtain ⟨b, o, sp⟩ := ad
 have hsp : sp = none := hsp
 subst hsp
 exact ⟨b, o, rfl⟩
end
section
open Go.RowKit
/-! ### any total order -/
section
variable {α : Type} {c : α -> α -> Int}
def Srt (c : α -> α -> Int) (L : List α) : Prop := L.Pairwise fun x y => c x y < 0
theorem Tot.irr (h : Tot c) (x : α) : ¬ c x x < 0 := by have := (h.eq x x).2 rfl; omega
theorem Tot.asym (h : Tot c) {x y : α} (h1 : c x y < 0) : ¬ c y x < 0 := by have := h.neg x y; omega
theorem Srt.uniq (h : Tot c) : ∀ {X Y : List α}, Srt c X -> Srt c Y -> (∀ x, x ∈ X ↔ x ∈ Y) -> X = Y
 | [], [], _, _, _ => rfl
 | [], b :: _, _, _, e => absurd ((e b).2 List.mem_cons_self) List.not_mem_nil
 | a :: _, [], _, _, e => absurd ((e a).1 List.mem_cons_self) List.not_mem_nil
 | a :: X, b :: Y, h1, h2, e => by
  obtain ⟨a1, a2⟩ := List.pairwise_cons.1 h1
  obtain ⟨b1, b2⟩ := List.pairwise_cons.1 h2
  have hab : a = b := by
   rcases List.mem_cons.1 ((e a).1 List.mem_cons_self) with q | q
   ·exact q
   ·rcases List.mem_cons.1 ((e b).2 List.mem_cons_self) with q' | q'
    ·exact q'.symm
    ·exact absurd (a1 b q') (h.asym (b1 a q))
  subst hab
  rw [Srt.uniq h a2 b2 fun x => ?_]
  have hx := e x
  rw [List.mem_cons, List.mem_cons] at hx
  constructor
  ·intro hm
   rcases hx.1 (.inr hm) with rfl | q
   ·exact absurd (a1 _ hm) (h.irr _)
   ·exact q
  ·intro hm
   rcases hx.2 (.inr hm) with rfl | q
   ·exact absurd (b1 _ hm) (h.irr _)
   ·exact q
structure Mg (c : α -> α -> Int) (X Y : List α) (D A B : List α) : Prop where
 sd : Srt c D
 sa : Srt c A
 sb : Srt c B
 da : ∀ d ∈ D, ∀ x ∈ A, c d x < 0
 db : ∀ d ∈ D, ∀ x ∈ B, c d x < 0
 all : ∀ x, (x ∈ D ∨ x ∈ A ∨ x ∈ B) ↔ (x ∈ X ∨ x ∈ Y)
theorem Mg.symm {X Y D A B : List α} (h : Mg c X Y D A B) : Mg c X Y D B A :=
 ⟨h.sd, h.sb, h.sa, h.db, h.da, fun x => by rw [<- h.all x]; constructor <;> (rintro (q | q | q) <;> simp [q])⟩
theorem Mg.left {X Y D A B : List α} {x : α} (h : Mg c X Y D (x :: A) B) (hx : ∀ y ∈ B, c x y < 0) : Mg c X Y (D ++ [x]) A B := by
 obtain ⟨a1, a2⟩ := List.pairwise_cons.1 h.sa
 refine ⟨List.pairwise_append.2 ⟨h.sd, List.pairwise_singleton _ _, fun d hd y hy => ?_⟩, a2, h.sb, fun d hd y hy => ?_, fun d hd y hy => ?_, fun y => ?_⟩
 ·obtain rfl := List.mem_singleton.1 hy
  exact h.da d hd _ List.mem_cons_self
 ·rcases List.mem_append.1 hd with q | q
  ·exact h.da d q y (List.mem_cons_of_mem _ hy)
  ·obtain rfl := List.mem_singleton.1 q
   exact a1 y hy
 ·rcases List.mem_append.1 hd with q | q
  ·exact h.db d q y hy
  ·obtain rfl := List.mem_singleton.1 q
   exact hx y hy
 ·rw [<- h.all y]
  simp only [List.mem_append, List.mem_cons]
  constructor
  ·rintro ((q | q) | q | q)
   ·exact .inl q
   ·exact .inr (.inl (.inl (by simpa using q)))
   ·exact .inr (.inl (.inr q))
   ·exact .inr (.inr q)
  ·rintro (q | (q | q) | q)
   ·exact .inl (.inl q)
   ·exact .inl (.inr (by simp [q]))
   ·exact .inr (.inl q)
   ·exact .inr (.inr q)
theorem srt_head (h : Tot c) {x y : α} {B : List α} (hB : Srt c (y :: B)) (hxy : c x y < 0) : ∀ z ∈ y :: B, c x z < 0 := fun z hz => by
 rcases List.mem_cons.1 hz with rfl | q
 ·exact hxy
 ·exact h.lt hxy (by have := (List.pairwise_cons.1 hB).1 z q; omega)
theorem Mg.lt (t : Tot c) {X Y D A B : List α} {x y : α} (h : Mg c X Y D (x :: A) (y :: B)) (hxy : c x y < 0) : Mg c X Y (D ++ [x]) A (y :: B) := h.left (srt_head t h.sb hxy)
def UnK (c : α -> α -> Int) (X Y Z : List α) : Prop := Srt c Z /\ ∀ x, x ∈ Z ↔ (x ∈ X ∨ x ∈ Y)
end
/-! ### records -/
def cmpU (x y : UInt8) : Int := if x < y then -1 else if y < x then 1 else 0
theorem cmpU_tot : Tot cmpU := by
 refine ⟨fun x y => ?_, fun x y => ?_, fun x y => ?_, fun x y z => ?_⟩ <;> simp only [cmpU, UInt8.lt_iff_toNat_lt]
 ·split
  ·simp
  ·split <;> simp
 ·split <;> split <;> (first | omega | rfl)
 ·constructor
  ·intro h
   split at h
   ·omega
   ·split at h
    ·omega
    ·exact UInt8.toNat_inj.1 (by omega)
  ·rintro rfl; simp
 ·intro h1 h2
  split at h1 <;> split at h2 <;> split <;> (try split) <;> (try split at h1) <;> (try split at h2) <;> omega
theorem cb_lex : ∀ a b : List UInt8, Lib.compareBytes a b = lex cmpU a b
 | [], [] => rfl
 | [], _ :: _ => rfl
 | _ :: _, [] => rfl
 | a :: x, b :: y => by
  have ih := cb_lex x y
  simp only [Lib.compareBytes, lex, cmpU]
  by_cases h : a < b
  ·simp [h]
  ·by_cases h2 : b < a
   ·simp [h, h2]
   ·simp [h, h2, ih]
theorem cmpS_lex (a b : ByteArray) : cmpS a b = lex cmpU a.data.toList b.data.toList := cb_lex _ _
theorem bytes_ext {a b : ByteArray} (h : a.data.toList = b.data.toList) : a = b := by
 obtain ⟨⟨x⟩⟩ := a; obtain ⟨⟨y⟩⟩ := b; simp at h; rw [h]
theorem cmpS_tot : Tot cmpS := by
 have t := cmpU_tot.lex
 refine ⟨fun x y => ?_, fun x y => ?_, fun x y => ?_, fun x y z => ?_⟩ <;> simp only [cmpS_lex]
 ·exact t.rng _ _
 ·exact t.neg _ _
 ·exact ⟨fun h => bytes_ext ((t.eq _ _).1 h), fun h => by rw [h]; exact (t.eq _ _).2 rfl⟩
 ·exact t.tr _ _ _
def rck (r : Rc) : Rp := (r.s, r.p.P)
theorem plR_rck (L : List Rc) : plR L = L.map rck := rfl
def ck (x y : Rp) : Int := if cmpS x.1 y.1 = 0 then cmpP x.2 y.2 else cmpS x.1 y.1
theorem ck_tot : Tot ck := Tot.both (f := Prod.fst) (g := Prod.snd) cmpS_tot cmpP_tot (fun _ _ h1 h2 => Prod.ext h1 h2)
theorem cmpR_ck {a b : Rc} {z : Int} (ha : InForm a.p.P) (hb : InForm b.p.P) (h : CmpR a b z) : z = ck (rck a) (rck b) := by
 have e : CmpOf a.p.P b.p.P (cmpP a.p.P b.p.P) := ⟨_, _, canon_iff.2 ha, canon_iff.2 hb, rfl⟩
 unfold ck
 rcases h with ⟨h1, h2⟩ | ⟨h1, h2⟩
 ·rw [if_neg (show ¬ cmpS (rck a).1 (rck b).1 = 0 from h1)]; exact h2
 ·rw [if_pos (show cmpS (rck a).1 (rck b).1 = 0 from h1)]; exact h2.unique e
theorem ck_cmpR {a b : Rc} (ha : InForm a.p.P) (hb : InForm b.p.P) : CmpR a b (ck (rck a) (rck b)) := by
 by_cases h : cmpS a.s b.s = 0
 ·refine .inr ⟨h, ?_⟩
  unfold ck
  rw [if_pos (show cmpS (rck a).1 (rck b).1 = 0 from h)]
  exact ⟨_, _, canon_iff.2 ha, canon_iff.2 hb, rfl⟩
 ·refine .inl ⟨h, ?_⟩
  unfold ck
  rw [if_neg (show ¬ cmpS (rck a).1 (rck b).1 = 0 from h)]
  rfl
theorem rcD_mem {L : List Rc} {j : Nat} (h : j < L.length) : L.getD j rc0 ∈ L := by
 rw [List.getD_eq_getElem?_getD, List.getElem?_eq_getElem h]; exact List.getElem_mem h
theorem rcD_at {L : List Rc} {j : Nat} (h : j < L.length) : L.getD j rc0 = L[j] := by
 rw [List.getD_eq_getElem?_getD, List.getElem?_eq_getElem h]; rfl
theorem okR_iff {L : List Rc} : OkR L L.length ↔ (∀ r ∈ L, RecOk r) /\ Srt ck (plR L) := by
 constructor
 ·intro h
  have hr : ∀ r ∈ L, RecOk r := fun r hr => by
   obtain ⟨j, hj, rfl⟩ := List.getElem_of_mem hr
   rw [<- rcD_at hj]; exact (h j hj).1
  refine ⟨hr, ?_⟩
  have step : ∀ k, ∀ i, (hk : i + k + 1 < L.length) -> ck (rck L[i]) (rck L[i + k + 1]) < 0 := by
   intro k
   have one : ∀ i, (hi : i + 1 < L.length) -> ck (rck L[i]) (rck L[i + 1]) < 0 := fun i hi => by
    obtain ⟨z, hz, hlt⟩ := (h (i + 1) hi).2 (by omega)
    rw [rcD_at hi, show i + 1 - 1 = i from rfl, rcD_at (by omega)] at hz
    rw [<- cmpR_ck (hr _ (List.getElem_mem _)).2.1 (hr _ (List.getElem_mem _)).2.1 hz]
    exact hlt
   induction k with
   | zero => intro i hk; exact one i (by omega)
   | succ k ih =>
    intro i hk
    have h1 := ih i (by omega)
    have h2 := one (i + k + 1) (by omega)
    exact ck_tot.lt h1 (Int.le_of_lt h2)
  unfold Srt
  rw [plR_rck, List.pairwise_map, List.pairwise_iff_getElem]
  intro i j hi hj hij
  obtain ⟨k, rfl⟩ : ∃ k, j = i + k + 1 := ⟨j - i - 1, by omega⟩
  exact step k i hj
 ·rintro ⟨hr, hs⟩ j hj
  unfold Srt at hs
  rw [plR_rck, List.pairwise_map, List.pairwise_iff_getElem] at hs
  refine ⟨hr _ (rcD_mem hj), fun h0 => ?_⟩
  rw [rcD_at hj, rcD_at (by omega)]
  exact ⟨_, ck_cmpR (hr _ (List.getElem_mem _)).2.1 (hr _ (List.getElem_mem _)).2.1, hs (j - 1) j (by omega) hj (by omega)⟩
def UnOf (L M F : List Rc) : Prop := UnK ck (plR L) (plR M) (plR F) /\ ∀ r ∈ F, RecOk r
theorem UnOf.ok {L M F : List Rc} (h : UnOf L M F) : OkR F F.length := okR_iff.2 ⟨h.2, h.1.1⟩
theorem recOk_rck {r r' : Rc} (h : RecOk r) (e : rck r' = rck r) : RecOk r' := by
 have e1 : r'.s = r.s := congrArg Prod.fst e
 have e2 : r'.p.P = r.p.P := congrArg Prod.snd e
 exact ⟨by rw [e1]; exact h.1, by rw [e2]; exact h.2⟩
end
section
open Go.RowKit Go.Maps Go.Sort
structure Hs where
 o : Option Addr
 n : Nat
 c : Nat
def hs0 : Hs := ⟨none, 0, 0⟩
abbrev HsV (s : Hs) : Value := .slice s.o s.n s.c
def RSl (v : Value) : Option (DataW Hs × List MemPlace) :=
 match v with
 | .slice o n c => some (.held ⟨o, n, c⟩, [])
 | _ => none
theorem RSl_of (s : Hs) : RSl (HsV s) = some (.held s, []) := rfl
def MpS (D : DataW Hs) (K : ByteArray -> Prop) (f : ByteArray -> Hs) : Prop := (∀ s : ByteArray, has D (.string s.data.toList) = true ↔ K s) /\ ∀ s : ByteArray, D.atKey (.string s.data.toList) (.held hs0) = .held (f s)
theorem strS_inj {a b : ByteArray} (h : (Lit.string a.data.toList) = .string b.data.toList) : a = b := by
 cases a; cases b; simp at h; simp [h]
theorem mpS_step {D : DataW Hs} {K : ByteArray -> Prop} {f : ByteArray -> Hs} (h : MpS D K f) (hm : IsMap D) (k : ByteArray) (x : Hs) (g : ByteArray -> Hs) (hg : g k = x) (hf : ∀ s, s ≠ k -> g s = f s) :
  MpS (D.put (.string k.data.toList) (.held x)) (fun s => s = k ∨ K s) g := by
 refine ⟨fun s => ?_, fun s => ?_⟩
 ·by_cases hs : k = s
  ·subst hs
   rw [has_put_same hm (k := .string k.data.toList) (show WideAt.IsKeyLit (.string k.data.toList) from trivial)]
   exact ⟨fun _ => .inl rfl, fun _ => rfl⟩
  ·rw [has_put_other (fun he => hs (strS_inj he).symm), h.1 s]
   exact ⟨fun h => .inr h, fun h => h.resolve_left (fun e => hs e.symm)⟩
 ·by_cases hs : k = s
  ·subst hs
   rw [atKey_put_same hm (k := .string k.data.toList) (show WideAt.IsKeyLit (.string k.data.toList) from trivial), hg]
  ·rw [atKey_put_other (fun he => hs (strS_inj he).symm), h.2 s, hf s (fun e => hs e.symm)]
end
section
open Go.RowKit Go.Maps Go.Sort
variable {P : Program} {kt et : TypeId} {size B : Nat} {w W W2 : World} {b k : Nat} {K : ByteArray -> Prop} {f : ByteArray -> Hs} {X : ByteArray -> List Value}
structure MRo (P : Program) (kt et : TypeId) (size B : Nat) (w W : World) (b k : Nat) (K : ByteArray -> Prop) (f : ByteArray -> Hs) (X : ByteArray -> List Value) : Prop where
 map : ∃ D, W.ownsMap P kt RSl b k D /\ MpS D K f
 rows : ∀ s, W.ownsRow B et size (HsV (f s)) (f s).n (X s)
 apart : ∀ s t, s ≠ t -> ∀ g, (HsV (f s)).ownBlock = some g -> (HsV (f t)).ownBlock ≠ some g
 below : Below w.heap.size w W
 hb : w.heap.size <= b /\ b < B /\ B <= W.heap.size
theorem grown_of_below (h : Below W.heap.size W W2) : W.grownBy W2 none := ⟨h.os, h.tape, h.output, h.size, fun k hk _ => h.block k hk⟩
theorem MRo.later (M : MRo P kt et size B w W b k K f X) (h : Below W.heap.size W W2) : MRo P kt et size B w W2 b k K f X := by
 obtain ⟨D, hD, hM⟩ := M.map
 have hlt : b < W.heap.size := by have := M.hb; omega
 refine ⟨⟨D, ?_, hM⟩, fun s => (M.rows s).kept (grown_of_below h) ?_, M.apart, M.below.trans (h.mono M.below.size), M.hb.1, M.hb.2.1, Nat.le_trans M.hb.2.2 h.size⟩
 ·obtain ⟨es, c, h1, h2⟩ := hD
  exact ⟨es, c, (h.block b hlt).trans h1, h2⟩
 ·cases (HsV (f s)).ownBlock with
  | none => exact .inl rfl
  | some g => exact .inr (by simp)
structure MRm (P : Program) (kt et : TypeId) (size B : Nat) (w W : World) (b k : Nat) (K : ByteArray -> Prop) (f : ByteArray -> Hs) (X : ByteArray -> List Value) (s : ByteArray) (x : Hs) (Y : List Value) : Prop where
 map : ∃ D, W.ownsMap P kt RSl b k D /\ MpS D K f
 row : W.ownsRow B et size (HsV x) x.n Y
 rows : ∀ t, t ≠ s -> W.ownsRow B et size (HsV (f t)) (f t).n (X t)
 apart : ∀ t u, t ≠ u -> ∀ g, (HsV (f t)).ownBlock = some g -> (HsV (f u)).ownBlock ≠ some g
 apartS : ∀ t, t ≠ s -> ∀ g, (HsV (f t)).ownBlock = some g -> (HsV x).ownBlock ≠ some g
 below : Below w.heap.size w W
 hb : w.heap.size <= b /\ b < B /\ B <= W.heap.size
theorem MRm.put {s : ByteArray} {x : Hs} {Y : List Value} (M : MRm P kt et size B w W b k K f X s x Y) (hK : Keyed P kt) (hk : P.underlying kt = some .string) {t st : TypeId} (ht : P.underlying t = some (.map kt st)) (hs : s.size <= maxLen) (hn : k < maxLen) :
  ∃ W2, (Instr.mapUpdate t (.map (some b)) (.string s) (HsV x)).run P W = .ok () W2 /\ MRo P kt et size B w W2 b (k + 1) (fun u => u = s ∨ K u) (fun u => if u = s then x else f u) (fun u => if u = s then Y else X u) /\ ∀ q, q < W.heap.size -> q ≠ b -> W2.heap[q]? = W.heap[q]? := by
 obtain ⟨D, hD, hM⟩ := M.map
 have hmap := hD.isMap
 obtain ⟨W2, hr, ho, hg⟩ := hD.update hK ht hn (Go.WideMaps.keyOf_string_mk hk hs) (RSl_of x)
 have hne : ∀ (v : Value) (n : Nat) (xs : List Value), W.ownsRow B et size v n xs -> v.ownBlock = none ∨ v.ownBlock ≠ some b := fun v n xs h => by
  cases hv : v.ownBlock with
  | none => exact .inl rfl
  | some q => exact .inr (fun e => by have := (h.lt q hv).1; have := M.hb; have := Option.some.inj e; omega)
 refine ⟨W2, hr, ⟨⟨_, ho, mpS_step hM hmap s x _ (if_pos rfl) (fun u hu => if_neg hu)⟩, fun u => ?_, fun u v huv g hg1 => ?_, M.below.grown hg M.below.size (fun j hj => by cases hj; exact M.hb.1), M.hb.1, M.hb.2.1, Nat.le_trans M.hb.2.2 hg.size⟩, fun q hq hn => hg.block q hq (fun e => hn (Option.some.inj e))⟩
 ·by_cases hu : u = s
  ·simp only [if_pos hu]
   exact M.row.kept hg (hne _ _ _ M.row)
  ·simp only [if_neg hu]
   exact (M.rows u hu).kept hg (hne _ _ _ (M.rows u hu))
 ·by_cases hu : u = s
  ·have hv : ¬ v = s := fun e => huv (hu.trans e.symm)
   simp only [if_pos hu, if_neg hv] at hg1 ⊢
   exact fun e => M.apartS v hv g e hg1
  ·by_cases hv : v = s
   ·simp only [if_neg hu, if_pos hv] at hg1 ⊢
    exact M.apartS u hu g hg1
   ·simp only [if_neg hu, if_neg hv] at hg1 ⊢
    exact M.apart u v huv g hg1
theorem step_appM {W W2 : World} {ops : Array Oper} {o : Oper} {a : Act} {K : Act -> World -> Prop} {Q : Exit -> Act -> World -> Prop} {E : Prop} {v1 v2 v' : Value} {st : TypeId} (hgd : o.guard = none) (s x : Operand) (ho : o.op = .call { callee := .builtin .append, args := #[s, x], argTypes := #[st, st] })
  (hs : a.eval s = v1) (hx : a.eval x = v2) (hrun : (Builtin.append_ #[st, st] o.type #[v1, v2]).run P W = .ok v' W2) (hK : K (a.put o.dst v') W2) :
  if Region.wanted o (yielded ops a.tmps) = true then Oper.wp P o a W K Q else E := by
 have hw : Region.wanted o (yielded ops a.tmps) = true := by simp [Region.wanted, hgd]
 rw [if_pos hw]
 unfold Oper.wp
 simp [execOp, ho, resolve, invoke, builtin, hs, hx, hrun, Result.andThen]
 exact hK
end
section
open Go.RowKit Go.Maps Go.Sort
def pvs (L : List Pv) : List Value := (L.map (fun p => (PC p).toList)).flatten
theorem pvs_append (L R : List Pv) : pvs (L ++ R) = pvs L ++ pvs R := by simp [pvs]
theorem pvs_one (p : Pv) : pvs [p] = (PC p).toList := by simp [pvs]
theorem pvs_length (L : List Pv) : (pvs L).length = L.length * 2 := by
 induction L with
 | nil => rfl
 | cons a L ih => have : pvs (a :: L) = (PC a).toList ++ pvs L := rfl; rw [this, List.length_append, ih]; simp [PC]; omega
theorem pvs_at (L : List Pv) (t j : Nat) (ht : t < L.length) (hj : j < 2) : (pvs L)[t * 2 + j]? = (PC L[t]).toList[j]? := by
 induction L generalizing t with
 | nil => simp at ht
 | cons a L ih =>
  have e : pvs (a :: L) = (PC a).toList ++ pvs L := rfl
  cases t with
  | zero => rw [e, List.getElem?_append_left (by simp [PC]; omega)]; simp
  | succ t =>
   rw [e, List.getElem?_append_right (by simp [PC]; omega)]
   have h := ih t (by simpa using ht)
   have e4 : (t + 1) * 2 + j - (PC a).toList.length = t * 2 + j := by simp [PC]; omega
   rw [e4, h]; simp
theorem pvs_cell (p : Pv) : ∀ v ∈ (PC p).toList, v.oneCell' = true := by
 intro v hv; simp [PC] at hv; rcases hv with rfl | rfl <;> rfl
theorem infoPast : (Tryz.prog.info? 26).map (fun i => (i.zero, i.size, i.bytes)) = some (some (.agg #[.slice none 0 0, .slice none 0 0]), 2, 48) := by kernel_rfl
theorem prow_of {W : World} {B : Nat} {h : Hs} {L : List Pv} (hr : W.ownsRow B 26 2 (HsV h) h.n (pvs L)) (hs : ∀ p ∈ L, PSrc W p) : PRow W h.o h.n L := by
 have hl : L.length = h.n := by have := hr.1; rw [pvs_length] at this; omega
 obtain ⟨o, n, c⟩ := h
 rcases hr.2 with ⟨h0, h00⟩ | ⟨g, cap, cur, hv, hbg, hgg, hnc, hcm, hcsz, htake⟩
 ·refine ⟨hl, fun _ => h00, fun ad e t p hp => ?_, hs⟩
  have := (List.getElem?_eq_some_iff.1 hp).1
  omega
 ·simp only [Value.slice.injEq] at hv
  obtain ⟨rfl, -, rfl⟩ := hv
  refine ⟨hl, fun e => (by cases e), fun ad e t p hp => ?_, hs⟩
  obtain rfl : (⟨g, 0, none⟩ : Addr) = ad := Option.some.inj e
  obtain ⟨ht, hpt⟩ := List.getElem?_eq_some_iff.1 hp
  have hc : ∀ j, j < 2 -> W.cell? ⟨g, t * 2 + j, none⟩ = (PC p).toList[j]? := fun j hj => by
   have h1 := World.ownsRow.cellAt hr (t * 2 + j) (by dsimp only at hl ⊢; omega)
   rw [h1, pvs_at L t j ht hj, hpt]
  refine ⟨?_, ?_⟩
  ·rw [Addr.add_lit, Nat.zero_add]
   exact hc 0 (by omega)
  ·rw [Addr.add_lit, Addr.add_lit, Nat.zero_add]
   exact hc 1 (by omega)
structure OwnP (B : Nat) (w W : World) (h : Hs) (L : List Pv) : Prop where
 own : W.ownsRow B 26 2 (HsV h) h.n (pvs L)
 src : ∀ p ∈ L, PSrc W p
 below : Below w.heap.size w W
 hB : w.heap.size <= B /\ B <= W.heap.size
theorem OwnP.nil (w : World) : OwnP w.heap.size w w hs0 [] := ⟨World.ownsRow_nil _ _ _ _, fun p h => (by cases h), Below.refl _ _, Nat.le_refl _, Nat.le_refl _⟩
theorem OwnP.later {B : Nat} {w W W2 : World} {h : Hs} {L : List Pv} (O : OwnP B w W h L) (hb : Below W.heap.size W W2) : OwnP B w W2 h L := by
 refine ⟨O.own.kept (grown_of_below hb) ?_, fun p hp => (O.src p hp).below hb, O.below.trans (hb.mono O.below.size), O.hB.1, Nat.le_trans O.hB.2 hb.size⟩
 cases (HsV h).ownBlock with
 | none => exact .inl rfl
 | some g => exact .inr (by simp)
theorem OwnP.row {B : Nat} {w W : World} {h : Hs} {L : List Pv} (O : OwnP B w W h L) : PRow W h.o h.n L := prow_of O.own O.src
end
section
open Go.RowKit Go.Maps Go.Sort
theorem psrc_keep {W W' : World} {p : Pv} {g : Option Nat} (h : PSrc W p) (hf : ∀ k, g = some k -> PFar p k) (hk : ∀ q, q < W.heap.size -> some q ≠ g -> W'.heap[q]? = W.heap[q]?) : PSrc W' p := by
 have ev : ∀ ad, p.vo = some ad -> ∀ t, t < p.vn -> W'.cell? (ad.add t) = W.cell? (ad.add t) := fun ad e t ht => by
  have hc := h.vec.2.2 ad e t ht
  have hl := World.block_lt_of_cell? _ _ hc
  rw [block_add] at hl
  unfold World.cell?
  rw [block_add, hk _ hl (fun eg => (hf _ eg.symm).1 (by omega) ad e rfl)]
 have ec : ∀ ad, p.co = some ad -> ∀ t, t < p.cn -> ∀ j, W'.cell? (ad.add j) = W.cell? (ad.add j) := fun ad e t ht j => by
  have hl := World.block_lt_of_cell? _ _ (h.cloud.cell ad e t ht).c0
  rw [block_add] at hl
  unfold World.cell?
  rw [block_add, hk _ hl (fun eg => (hf _ eg.symm).2 (by omega) ad e rfl)]
 refine ⟨⟨h.vec.1, h.vec.2.1, fun ad e t ht => by rw [ev ad e t ht]; exact h.vec.2.2 ad e t ht⟩, ⟨h.cloud.len, h.cloud.nil, fun ad e t ht => ?_, h.cloud.big, h.cloud.cap⟩, h.big⟩
 have A := h.cloud.cell ad e t ht
 have e' := ec ad e t ht
 exact ⟨by rw [e']; exact A.c0, by have := A.c1; rw [add_add] at this ⊢; rw [e']; exact this, by have := A.c2; rw [add_add] at this ⊢; rw [e']; exact this⟩
def FarH (h : Hs) (p : Pv) : Prop := ∀ k, (HsV h).ownBlock = some k -> PFar p k
theorem OwnP.app {B : Nat} {w W : World} {h : Hs} {L : List Pv} (O : OwnP B w W h L) (hF : ∀ p ∈ L, FarH h p) (p : Pv) (hp : PSrc W p) (hf : FarH h p) (hn : h.n <= 2900000000000) :
  ∃ g c2 W2, (Builtin.append_ #[59, 59] 59 #[HsV h, .slice (some ⟨W.heap.size, 0, none⟩) 1 1]).run Tryz.prog (W.alloc (.cells (PC p) 26)) = .ok (.slice (some ⟨g, 0, none⟩) (h.n + 1) c2) W2 /\ OwnP B w W2 ⟨some ⟨g, 0, none⟩, h.n + 1, c2⟩ (L ++ [p]) /\ (∀ q ∈ L ++ [p], FarH ⟨some ⟨g, 0, none⟩, h.n + 1, c2⟩ q) /\ (∀ q, q < W.heap.size -> (HsV h).ownBlock ≠ some q -> W2.heap[q]? = W.heap[q]?) := by
 obtain ⟨i0, hi, hz0, hz1, hz2⟩ := info_parts infoPast
 have b1 := below_new W (.cells (PC p) 26)
 have O1 := O.later b1
 obtain ⟨v', W2, hrun, hown, hgrow, _, hat⟩ := run_append_own_at (P := Tryz.prog) (W.alloc (.cells (PC p) 26)) B 59 59 26 i0 (.agg #[.slice none 0 0, .slice none 0 0]) 2 48 Tryz.underlying59 hi hz0 hz1 hz2 (by simp [Value.cells]) (by decide) (HsV h) h.n (pvs L) O1.own ⟨W.heap.size, 0, none⟩ 1 1 (PC p).toList rfl (fun j u hj => by
  rw [Addr.add_lit, Nat.zero_add, World.cell?_alloc_new]
  simpa using hj) (pvs_cell p) (by unfold maxLen; omega) (by omega) O1.hB.2
 rcases hown.2 with ⟨h0, h00⟩ | ⟨g, cap2, cur, hv, hbg, hgg, hnc, hcm, hcsz, htake⟩
 ·omega
 ·subst hv
  have hall : ∀ q ∈ L ++ [p], PSrc (W.alloc (.cells (PC p) 26)) q /\ FarH h q := fun q hq => by
   rcases List.mem_append.1 hq with hq | hq
   ·exact ⟨O1.src q hq, hF q hq⟩
   ·obtain rfl : q = p := by simpa using hq
    exact ⟨hp.below b1, hf⟩
  have hrow : ∀ k, (HsV h).ownBlock = some k -> B <= k := fun k hk => (O1.own.lt k hk).1
  refine ⟨g, cap2, W2, hrun, ⟨by rw [pvs_append, pvs_one]; exact hown, fun q hq => psrc_keep (hall q hq).1 (fun k hk => (hall q hq).2 k hk) (fun k hk hn => hgrow.block k hk hn), O1.below.grown hgrow O1.below.size (fun k hk => by have := hrow k hk; have := O.hB; omega), O.hB.1, Nat.le_trans O1.hB.2 hgrow.size⟩, fun q hq k hk => ?_, fun q hq hn => (hgrow.block q (by simp; omega) (fun e => hn e.symm)).trans (Below.heap_alloc W _ q hq)⟩
  rcases hat with e | e
  ·exact (hall q hq).2 k (by rw [<- e]; exact hk)
  ·rw [e] at hk
   have := Option.some.inj hk
   exact PFar.old (hall q hq).1 (by omega)
/-! ### records -/
def rvs (L : List Rc) : List Value := (L.map (fun r => (ReC (mkR r)).toList)).flatten
theorem rvs_append (L R : List Rc) : rvs (L ++ R) = rvs L ++ rvs R := by simp [rvs]
theorem rvs_one (r : Rc) : rvs [r] = (ReC (mkR r)).toList := by simp [rvs]
theorem rvs_length (L : List Rc) : (rvs L).length = L.length * 3 := by
 induction L with
 | nil => rfl
 | cons a L ih => have : rvs (a :: L) = (ReC (mkR a)).toList ++ rvs L := rfl; rw [this, List.length_append, ih]; simp [ReC]; omega
theorem rvs_at (L : List Rc) (t j : Nat) (ht : t < L.length) (hj : j < 3) : (rvs L)[t * 3 + j]? = (ReC (mkR (L.getD t rc0))).toList[j]? := by
 induction L generalizing t with
 | nil => simp at ht
 | cons a L ih =>
  have e : rvs (a :: L) = (ReC (mkR a)).toList ++ rvs L := rfl
  cases t with
  | zero => rw [e, List.getElem?_append_left (by simp [ReC]; omega)]; simp [List.getD]
  | succ t =>
   rw [e, List.getElem?_append_right (by simp [ReC]; omega)]
   have h := ih t (by simpa using ht)
   have e4 : (t + 1) * 3 + j - (ReC (mkR a)).toList.length = t * 3 + j := by simp [ReC]; omega
   rw [e4, h]; simp [List.getD]
theorem rvs_cell (r : Rc) : ∀ v ∈ (ReC (mkR r)).toList, v.oneCell' = true := by
 intro v hv; simp [ReC] at hv; rcases hv with rfl | rfl | rfl <;> rfl
theorem infoRec : (Tryz.prog.info? 62).map (fun i => (i.zero, i.size, i.bytes)) = some (some (.agg #[.string ⟨#[]⟩, .slice none 0 0, .slice none 0 0]), 3, 64) := by kernel_rfl
structure OwnRc (B : Nat) (w W : World) (h : Hs) (L : List Rc) : Prop where
 own : W.ownsRow B 62 3 (HsV h) h.n (rvs L)
 ok : ∀ r ∈ L, RcOk W r /\ FarH h r.p
 below : Below w.heap.size w W
 hB : w.heap.size <= B /\ B <= W.heap.size
theorem OwnRc.nil (w : World) : OwnRc w.heap.size w w hs0 [] := ⟨World.ownsRow_nil _ _ _ _, fun p h => (by cases h), Below.refl _ _, Nat.le_refl _, Nat.le_refl _⟩
theorem OwnRc.later {B : Nat} {w W W2 : World} {h : Hs} {L : List Rc} (O : OwnRc B w W h L) (hb : Below W.heap.size W W2) : OwnRc B w W2 h L := by
 refine ⟨O.own.kept (grown_of_below hb) ?_, fun p hp => ⟨(O.ok p hp).1.below hb, (O.ok p hp).2⟩, O.below.trans (hb.mono O.below.size), O.hB.1, Nat.le_trans O.hB.2 hb.size⟩
 cases (HsV h).ownBlock with
 | none => exact .inl rfl
 | some g => exact .inr (by simp)
theorem OwnRc.app {B : Nat} {w W : World} {h : Hs} {L : List Rc} (O : OwnRc B w W h L) (r : Rc) (hp : RcOk W r) (hf : FarH h r.p) (hn : h.n <= 2199023255551) :
  ∃ g c2 W2, (Builtin.append_ #[27, 27] 27 #[HsV h, .slice (some ⟨W.heap.size, 0, none⟩) 1 1]).run Tryz.prog (W.alloc (.cells (ReC (mkR r)) 62)) = .ok (.slice (some ⟨g, 0, none⟩) (h.n + 1) c2) W2 /\ OwnRc B w W2 ⟨some ⟨g, 0, none⟩, h.n + 1, c2⟩ (L ++ [r]) /\ (∀ q, q < W.heap.size -> (HsV h).ownBlock ≠ some q -> W2.heap[q]? = W.heap[q]?) := by
 obtain ⟨i0, hi, hz0, hz1, hz2⟩ := info_parts infoRec
 have b1 := below_new W (.cells (ReC (mkR r)) 62)
 have O1 := O.later b1
 obtain ⟨v', W2, hrun, hown, hgrow, _, hat⟩ := run_append_own_at (P := Tryz.prog) (W.alloc (.cells (ReC (mkR r)) 62)) B 27 27 62 i0 (.agg #[.string ⟨#[]⟩, .slice none 0 0, .slice none 0 0]) 3 64 Tryz.underlying27 hi hz0 hz1 hz2 (by simp [Value.cells]) (by decide) (HsV h) h.n (rvs L) O1.own ⟨W.heap.size, 0, none⟩ 1 1 (ReC (mkR r)).toList rfl (fun j u hj => by
  rw [Addr.add_lit, Nat.zero_add, World.cell?_alloc_new]
  simpa using hj) (rvs_cell r) (by unfold maxLen; omega) (by omega) O1.hB.2
 rcases hown.2 with ⟨h0, h00⟩ | ⟨g, cap2, cur, hv, hbg, hgg, hnc, hcm, hcsz, htake⟩
 ·omega
 ·subst hv
  have hall : ∀ q ∈ L ++ [r], RcOk (W.alloc (.cells (ReC (mkR r)) 62)) q /\ FarH h q.p := fun q hq => by
   rcases List.mem_append.1 hq with hq | hq
   ·exact O1.ok q hq
   ·obtain rfl : q = r := by simpa using hq
    exact ⟨hp.below b1, hf⟩
  have hrow : ∀ k, (HsV h).ownBlock = some k -> B <= k := fun k hk => (O1.own.lt k hk).1
  refine ⟨g, cap2, W2, hrun, ⟨by rw [rvs_append, rvs_one]; exact hown, fun q hq => ⟨⟨psrc_keep (hall q hq).1.1 (fun k hk => (hall q hq).2 k hk) (fun k hk hn => hgrow.block k hk hn), (hall q hq).1.2⟩, fun k hk => ?_⟩, O1.below.grown hgrow O1.below.size (fun k hk => by have := hrow k hk; have := O.hB; omega), O.hB.1, Nat.le_trans O1.hB.2 hgrow.size⟩, fun q hq hn => (hgrow.block q (by simp; omega) (fun e => hn e.symm)).trans (Below.heap_alloc W _ q hq)⟩
  rcases hat with e | e
  ·exact (hall q hq).2 k (by rw [<- e]; exact hk)
  ·rw [e] at hk
   have := Option.some.inj hk
   exact PFar.old (hall q hq).1.1 (by omega)
theorem OwnRc.src {B : Nat} {w W : World} {h : Hs} {L : List Rc} (O : OwnRc B w W h L) (hn : h.n <= 2199023255552) : RcS W h.o h.n h.c L := by
 have hl : L.length = h.n := by have := O.own.1; rw [rvs_length] at this; omega
 have hok : ∀ r ∈ L, RcOk W r := fun r hr => (O.ok r hr).1
 have hr := O.own
 obtain ⟨o, n, c⟩ := h
 rcases hr.2 with ⟨h0, h00⟩ | ⟨g, cap, cur, hv, hbg, hgg, hnc, hcm, hcsz, htake⟩
 ·refine ⟨hl, fun _ => h00, fun ad e t ht => ?_, hok, hn⟩
  omega
 ·simp only [Value.slice.injEq] at hv
  obtain ⟨rfl, -, rfl⟩ := hv
  refine ⟨hl, fun e => (by cases e), fun ad e t ht => ?_, hok, hn⟩
  obtain rfl : (⟨g, 0, none⟩ : Addr) = ad := Option.some.inj e
  have hc : ∀ j, j < 3 -> W.cell? ⟨g, t * 3 + j, none⟩ = (ReC (mkR (L.getD t rc0))).toList[j]? := fun j hj => by
   have h1 := World.ownsRow.cellAt hr (t * 3 + j) (by dsimp only at ht ⊢; omega)
   rw [h1, rvs_at L t j (by omega) hj]
  refine ⟨?_, ?_, ?_⟩
  ·rw [Addr.add_lit, Nat.zero_add]
   exact hc 0 (by omega)
  ·rw [Addr.add_lit, Addr.add_lit, Nat.zero_add]
   exact hc 1 (by omega)
  ·rw [Addr.add_lit, Addr.add_lit, Nat.zero_add]
   exact hc 2 (by omega)
end
end Go.Proofs.YtalpnhfoaohhhaaGreat
namespace Go.Proofs
open Go.Shelf
def Tryz.growRe_ren : Go.Shelf.Ren := ⟨fun | 4 => 105 | n => n, fun | 22 => 27 | 25 => 62 | 3 => 3 | 4 => 4 | 9 => 9 | 20 => 20 | 0 => 0 | n => n, fun | n => n⟩
end Go.Proofs
namespace Go.Proofs.YtalpnhfoaohhhaaGreat
section
open Go.RowKit Go.Lib Go.Maps Go.Sort
theorem RcS.cells {w : World} {ad : Addr} {n cap : Nat} {L : List Rc} (h : RcS w (some ad) n cap L) : ∀ j u, (rvs L)[j]? = some u -> w.cell? (ad.add j) = some u := fun j u hj => by
 have hlt : j < L.length * 3 := by
  have := (List.getElem?_eq_some_iff.1 hj).1
  rwa [rvs_length] at this
 have hn := h.len
 have ht : j / 3 < n := by omega
 have A := h.at_ ad rfl (j / 3) ht
 have e : j = j / 3 * 3 + j % 3 := by omega
 have hm : j % 3 < 3 := Nat.mod_lt _ (by decide)
 rw [e, rvs_at L (j / 3) (j % 3) (by omega) hm] at hj
 have hc : ∀ i, i < 3 -> w.cell? ((ad.add (j / 3 * 3)).add i) = (ReC (mkR (L.getD (j / 3) rc0))).toList[i]? := by
  intro i hi
  match i, hi with
  | 0, _ => rw [add_zero]; exact A.c0
  | 1, _ => exact A.c1
  | 2, _ => exact A.c2
 rw [e, <- add_add, hc _ hm, hj]
theorem OwnRc.appAt {B : Nat} {w W : World} {h : Hs} {L : List Rc} (O : OwnRc B w W h L) (r : Rc) (hp : RcOk W r) (hf : FarH h r.p) (hn : h.n <= 2199023255551) :
  ∃ g c2 W2, (Builtin.append_ #[27, 27] 27 #[HsV h, .slice (some ⟨W.heap.size, 0, none⟩) 1 1]).run Tryz.prog (W.alloc (.cells (ReC (mkR r)) 62)) = .ok (.slice (some ⟨g, 0, none⟩) (h.n + 1) c2) W2 /\ OwnRc B w W2 ⟨some ⟨g, 0, none⟩, h.n + 1, c2⟩ (L ++ [r]) /\ (∀ q, q < W.heap.size -> (HsV h).ownBlock ≠ some q -> W2.heap[q]? = W.heap[q]?) /\ ((HsV h).ownBlock = some g ∨ W.heap.size <= g) /\ W.heap.size <= W2.heap.size := by
 obtain ⟨i0, hi, hz0, hz1, hz2⟩ := info_parts infoRec
 have b1 := below_new W (.cells (ReC (mkR r)) 62)
 have O1 := O.later b1
 obtain ⟨v', W2, hrun, hown, hgrow, _, hat⟩ := run_append_own_at (P := Tryz.prog) (W.alloc (.cells (ReC (mkR r)) 62)) B 27 27 62 i0 (.agg #[.string ⟨#[]⟩, .slice none 0 0, .slice none 0 0]) 3 64 Tryz.underlying27 hi hz0 hz1 hz2 (by simp [Value.cells]) (by decide) (HsV h) h.n (rvs L) O1.own ⟨W.heap.size, 0, none⟩ 1 1 (ReC (mkR r)).toList rfl (fun j u hj => by
  rw [Addr.add_lit, Nat.zero_add, World.cell?_alloc_new]
  simpa using hj) (rvs_cell r) (by unfold maxLen; omega) (by omega) O1.hB.2
 obtain ⟨g, cap2, W3, hrun3, O3, hk3⟩ := O.app r hp hf hn
 rw [hrun] at hrun3
 have e1 : v' = .slice (some ⟨g, 0, none⟩) (h.n + 1) cap2 := by cases hrun3; rfl
 have e2 : W2 = W3 := by cases hrun3; rfl
 subst e1 e2
 refine ⟨g, cap2, W2, hrun, O3, hk3, ?_, by have h1 := hgrow.size; rw [World.size_alloc] at h1; omega⟩
 rcases hat with e | e
 ·exact .inl e.symm
 ·refine .inr ?_
  have h1 := Option.some.inj (e.symm.trans (rfl : (Value.slice (some ⟨g, 0, none⟩) (h.n + 1) cap2).ownBlock = some g))
  simp at h1
  omega
theorem rcs_mv {w w' : World} {ao : Option Addr} {n cap : Nat} {L : List Rc} (h : RcS w ao n cap L) (hk : ∀ ad, ao = some ad -> w'.heap[ad.block]? = w.heap[ad.block]?) (hp : ∀ r ∈ L, RcOk w' r) : RcS w' ao n cap L := by
 refine ⟨h.len, h.nil, fun ad ha t ht => ?_, hp, h.big⟩
 have A := h.at_ ad ha t ht
 have hc : ∀ a : Addr, a.block = ad.block -> w'.cell? a = w.cell? a := fun a e => by unfold World.cell?; rw [e, hk ad ha]
 have e1 : (ad.add (t * 3)).block = ad.block := block_add _ _
 exact ⟨by rw [hc _ e1]; exact A.c0, by rw [hc _ (by rw [block_add]; exact e1)]; exact A.c1, by rw [hc _ (by rw [block_add]; exact e1)]; exact A.c2⟩
theorem farH_of {w W : World} {B : Nat} {h : Hs} {L : List Rc} (O : OwnRc B w W h L) {p : Pv} (hp : PSrc w p) : FarH h p := fun k hk => PFar.old hp (Nat.le_trans O.hB.1 (O.own.lt k hk).1)
end
section
open Go.RowKit
end
section
open Go.RowKit
theorem vsrc_lit (w : World) (T : TypeId) (C : Array Value) (Z : List Int) (hC : C = (Z.map fun x => Value.int .i64 x).toArray) (g n : Nat) (hg : w.heap.size = g) (hn : Z.length = n) : V.Src (w.alloc (.cells C T)) (some ⟨g, 0, none⟩) n n Z := by
 subst hg hn hC
 refine ⟨rfl, (fun h => by cases h), fun ad h t ht => ?_⟩
 obtain rfl := Option.some.inj h
 have h1 := heap_alloc_new w (.cells (Z.map fun x => Value.int .i64 x).toArray T)
 rw [Addr.add_lit, Nat.zero_add]
 simp only [World.cell?, h1]
 simp [ht]
theorem rcs_lit (w : World) (T : TypeId) (C : Array Value) (R : List Rc) (hC : C = (rvs R).toArray) (g n : Nat) (hg : w.heap.size = g) (hn : R.length = n) (hb : n <= 2199023255552) (hok : ∀ r ∈ R, RcOk w r) : RcS (w.alloc (.cells C T)) (some ⟨g, 0, none⟩) n n R := by
 subst hg hn hC
 have b1 := below_new w (.cells (rvs R).toArray T)
 refine ⟨rfl, (fun h => by cases h), fun ad h t ht => ?_, fun r hr => (hok r hr).below b1, hb⟩
 obtain rfl := Option.some.inj h
 have hc : ∀ j, j < 3 -> (w.alloc (.cells (rvs R).toArray T)).cell? ⟨w.heap.size, t * 3 + j, none⟩ = (ReC (mkR (R.getD t rc0))).toList[j]? := fun j hj => by
  rw [World.cell?_alloc_new, List.getElem?_toArray, rvs_at R t j ht hj]
 rw [Addr.add_lit, Nat.zero_add]
 refine ⟨?_, ?_, ?_⟩
 ·exact hc 0 (by omega)
 ·rw [Addr.add_lit]; exact hc 1 (by omega)
 ·rw [Addr.add_lit]; exact hc 2 (by omega)
def bldP (a : Array (Nat × Value)) : Sem Value := Instr.build 26 a
theorem bldP_eq (a : Array (Nat × Value)) : Instr.build 26 a = bldP a := rfl
theorem run_bldP2 (a b : Option Addr) (n c m d : Nat) (w : World) : (bldP #[(0, .slice a n c), (1, .slice b m d)]).run Tryz.prog w = .ok (.agg #[.slice a n c, .slice b m d]) w := by kernel_rfl
theorem run_bldP1 (a : Option Addr) (n c : Nat) (w : World) : (bldP #[(0, .slice a n c)]).run Tryz.prog w = .ok (.agg #[.slice a n c, .slice none 0 0]) w := by kernel_rfl
def bldR (a : Array (Nat × Value)) : Sem Value := Instr.build 62 a
theorem bldR_eq (a : Array (Nat × Value)) : Instr.build 62 a = bldR a := rfl
theorem run_bldR2 (s : ByteArray) (a b : Option Addr) (n c m d : Nat) (w : World) : (bldR #[(0, .string s), (1, .agg #[.slice a n c, .slice b m d])]).run Tryz.prog w = .ok (.agg #[.string s, .slice a n c, .slice b m d]) w := by kernel_rfl
theorem run_bldRp (s : ByteArray) (p : Pv) (w : World) : (bldR #[(0, .string s), (1, .agg (PC p))]).run Tryz.prog w = .ok (.agg (ReC (mkR ⟨s, p⟩))) w := by kernel_rfl
def bldE (a : Array (Nat × Value)) : Sem Value := Instr.build 36 a
theorem bldE_eq (a : Array (Nat × Value)) : Instr.build 36 a = bldE a := rfl
theorem run_bldE (a b q : Int) (s : ByteArray) (w : World) : (bldE #[(0, .agg #[.int .i64 a, .int .i64 b]), (1, .string s), (2, .int .i64 q)]).run Tryz.prog w = .ok (.agg #[.int .i64 a, .int .i64 b, .string s, .int .i64 q]) w := by kernel_rfl
def bldD (a : Array (Nat × Value)) : Sem Value := Instr.build 32 a
theorem bldD_eq (a : Array (Nat × Value)) : Instr.build 32 a = bldD a := rfl
theorem run_bldD (a b : Int) (w : World) : (bldD #[(0, .int .i64 a), (1, .int .i64 b)]).run Tryz.prog w = .ok (.agg #[.int .i64 a, .int .i64 b]) w := by kernel_rfl
def bldSp (a : Array (Nat × Value)) : Sem Value := Instr.build 99 a
end
section
open Go.RowKit Go.Maps Go.Sort
attribute [local go_sem ↓] ldP_eq stP_eq ldRe_eq stRe_eq bldR_eq run_bldRp
attribute [local go_sem] cells_PV PC_size cells_ReV ReC_size zero_ReC
def CpA (w w' : World) (x : Ending) (r : Rc) : Prop := ∃ c : Rc, x = .returned (ReV (mkR c)) /\ c.s = r.s /\ RcOk w' c /\ PNew w.heap.size c.p /\ Below w.heap.size w w' /\ CanonOf (runsAt r.p.P) c.p.P
def SoA (w w' : World) (x : Ending) (r : Rc) : Prop := ∃ (h : Hs) (c : Rc), x = .returned (.tuple #[HsV h, .int .i64 0]) /\ RcS w' h.o 1 h.c [c] /\ h.n = 1 /\ c.s = r.s /\ Below w.heap.size w w' /\ CanonOf (runsAt r.p.P) c.p.P
def SoI (w W : World) (k : Nat) (x : Hs) (r : Rc) : Prop := ∃ C, OwnRc w.heap.size w W x C /\ ((k = 0 /\ C = [] /\ x.n = 0) ∨ (1 <= k /\ x.n = 1 /\ ∃ c, C = [c] /\ c.s = r.s /\ CanonOf (runsAt r.p.P) c.p.P))
end
end Go.Proofs.YtalpnhfoaohhhaaGreat
