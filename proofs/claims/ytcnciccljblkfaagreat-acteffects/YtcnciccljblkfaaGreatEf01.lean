/- RPu RSl PKa -/
import Derived.Test.YtcnciccljblkfaaGreatEf00
import Derived.Deep.RegionLaw
import Derived.Maps.AppendAt
namespace Go.Proofs.YtcnciccljblkfaaGreat

def mem (a : List Rn) (n : Int) : Prop := 1 ≤ n ∧ n ≤ 1000000000 ∧ ∃ r, r ∈ a ∧ r.lo ≤ n ∧ n ≤ r.hi
def form : Int → List Rn → Prop
 | _, [] => True
 | l, r :: a => l ≤ r.lo ∧ r.lo ≤ r.hi ∧ r.hi ≤ 1000000000 ∧ form (r.hi + 2) a
theorem mem_nil (n : Int) : ¬ mem [] n := fun ⟨_, _, r, h, _⟩ => by cases h
theorem mem_cons (r : Rn) (a : List Rn) (n : Int) : mem (r :: a) n ↔ (1 ≤ n ∧ n ≤ 1000000000 ∧ r.lo ≤ n ∧ n ≤ r.hi) ∨ mem a n := by
 constructor
 ·rintro ⟨h1, h2, x, hx, h3⟩
  rcases List.mem_cons.1 hx with e | e
  ·subst e; exact Or.inl ⟨h1, h2, h3⟩
  ·exact Or.inr ⟨h1, h2, x, e, h3⟩
 ·rintro (⟨h1, h2, h3⟩ | ⟨h1, h2, x, hx, h3⟩)
  ·exact ⟨h1, h2, r, List.mem_cons_self .., h3⟩
  ·exact ⟨h1, h2, x, List.mem_cons_of_mem _ hx, h3⟩
theorem mem_append (a b : List Rn) (n : Int) : mem (a ++ b) n ↔ mem a n ∨ mem b n := by
 constructor
 ·rintro ⟨h1, h2, x, hx, h3⟩
  rcases List.mem_append.1 hx with e | e
  ·exact Or.inl ⟨h1, h2, x, e, h3⟩
  ·exact Or.inr ⟨h1, h2, x, e, h3⟩
 ·rintro (⟨h1, h2, x, hx, h3⟩ | ⟨h1, h2, x, hx, h3⟩)
  ·exact ⟨h1, h2, x, List.mem_append_left _ hx, h3⟩
  ·exact ⟨h1, h2, x, List.mem_append_right _ hx, h3⟩
theorem mem_one (r : Rn) (n : Int) : mem [r] n ↔ 1 ≤ n ∧ n ≤ 1000000000 ∧ r.lo ≤ n ∧ n ≤ r.hi := by
 rw [mem_cons]
 exact ⟨fun h => h.elim id (fun h => absurd h (mem_nil n)), Or.inl⟩
theorem mem_congr {a b : List Rn} (h : ∀ r, r ∈ a ↔ r ∈ b) (n : Int) : mem a n ↔ mem b n :=
 ⟨fun ⟨h1, h2, x, hx, h3⟩ => ⟨h1, h2, x, (h x).1 hx, h3⟩, fun ⟨h1, h2, x, hx, h3⟩ => ⟨h1, h2, x, (h x).2 hx, h3⟩⟩
theorem form_mono {l l' : Int} (hl : l' ≤ l) : ∀ {a : List Rn}, form l a → form l' a
 | [], _ => trivial
 | _ :: _, h => ⟨Int.le_trans hl h.1, h.2⟩
theorem form_ge : ∀ {a : List Rn} {l : Int} {n : Int}, form l a → mem a n → l ≤ n
 | [], _, n, _, h => absurd h (mem_nil n)
 | r :: a, l, n, hf, h => by
  rcases (mem_cons r a n).1 h with h | h
  ·have := hf.1; omega
  ·have := form_ge hf.2.2.2 h; have := hf.1; have := hf.2.1; omega
theorem form_unique : ∀ {a b : List Rn} {l : Int}, 1 ≤ l → form l a → form l b → (∀ n, mem a n ↔ mem b n) → a = b
 | [], [], _, _, _, _, _ => rfl
 | [], s :: b, l, hl, _, hb, h => absurd ((h s.lo).2 ((mem_cons s b s.lo).2 (Or.inl ⟨by have := hb.1; omega, by have := hb.2; omega, Int.le_refl _, hb.2.1⟩))) (mem_nil _)
 | r :: a, [], l, hl, ha, _, h => absurd ((h r.lo).1 ((mem_cons r a r.lo).2 (Or.inl ⟨by have := ha.1; omega, by have := ha.2; omega, Int.le_refl _, ha.2.1⟩))) (mem_nil _)
 | r :: a, s :: b, l, hl, ha, hb, h => by
  have a1 := ha.1; have a2 := ha.2.1; have a3 := ha.2.2.1; have a4 := ha.2.2.2
  have b1 := hb.1; have b2 := hb.2.1; have b3 := hb.2.2.1; have b4 := hb.2.2.2
  have ge : ∀ {x : Rn} {c : List Rn} {n : Int}, form (x.hi + 2) c → x.lo ≤ x.hi → mem (x :: c) n → x.lo ≤ n := fun {x c n} hf hx hm => by
   rcases (mem_cons x c n).1 hm with e | e
   ·exact e.2.2.1
   ·have := form_ge hf e; omega
  have e1 : s.lo ≤ r.lo := ge b4 b2 ((h r.lo).1 ((mem_cons r a r.lo).2 (Or.inl ⟨by omega, by omega, Int.le_refl _, a2⟩)))
  have e2 : r.lo ≤ s.lo := ge a4 a2 ((h s.lo).2 ((mem_cons s b s.lo).2 (Or.inl ⟨by omega, by omega, Int.le_refl _, b2⟩)))
  have e3 : ¬ r.hi < s.hi := fun hlt => by
   have := (h (r.hi + 1)).2 ((mem_cons s b _).2 (Or.inl ⟨by omega, by omega, by omega, by omega⟩))
   rcases (mem_cons r a _).1 this with e | e
   ·omega
   ·have := form_ge a4 e; omega
  have e4 : ¬ s.hi < r.hi := fun hlt => by
   have := (h (s.hi + 1)).1 ((mem_cons r a _).2 (Or.inl ⟨by omega, by omega, by omega, by omega⟩))
   rcases (mem_cons s b _).1 this with e | e
   ·omega
   ·have := form_ge b4 e; omega
  have er : r = s := by
   obtain ⟨r1, r2⟩ := r
   obtain ⟨s1, s2⟩ := s
   simp at e1 e2 e3 e4
   rw [show r1 = s1 by omega, show r2 = s2 by omega]
  subst er
  rw [form_unique (l := r.hi + 2) (by omega) a4 b4 (fun n => ?_)]
  constructor
  ·intro hm
   have hge := form_ge a4 hm
   rcases (mem_cons r b n).1 ((h n).1 ((mem_cons r a n).2 (Or.inr hm))) with e | e
   ·omega
   ·exact e
  ·intro hm
   have hge := form_ge b4 hm
   rcases (mem_cons r a n).1 ((h n).2 ((mem_cons r b n).2 (Or.inr hm))) with e | e
   ·omega
   ·exact e
theorem form_len : ∀ {a : List Rn} {l : Int}, form l a → a = [] ∨ 2 * (a.length : Int) + l ≤ 1000000002
 | [], _, _ => Or.inl rfl
 | r :: a, l, h => by
  right
  have h1 := h.1; have h2 := h.2.1; have h3 := h.2.2.1
  rcases form_len h.2.2.2 with e | e
  ·subst e; simp; omega
  ·simp only [List.length_cons]; omega
theorem form_small {a : List Rn} {l : Int} (hl : 1 ≤ l) (h : form l a) : a.length ≤ 500000001 := by
 rcases form_len h with e | e
 ·subst e; simp
 ·omega
def NormOf (a R : List Rn) : Prop := form 1 R ∧ ∀ n, mem R n ↔ mem a n
theorem NormOf.unique {a R R' : List Rn} (h : NormOf a R) (h' : NormOf a R') : R = R' := form_unique (Int.le_refl _) h.1 h'.1 (fun n => (h.2 n).trans (h'.2 n).symm)
theorem NormOf.self {a : List Rn} (h : form 1 a) : NormOf a a := ⟨h, fun _ => Iff.rfl⟩
theorem form_snoc : ∀ {i : List Rn} {l : Int} {x r : Rn}, form l (i ++ [x]) → x.hi + 2 ≤ r.lo → r.lo ≤ r.hi → r.hi ≤ 1000000000 → form l (i ++ [x] ++ [r])
 | [], _, _, _, h, h1, h2, h3 => ⟨h.1, h.2.1, h.2.2.1, h1, h2, h3, trivial⟩
 | _ :: _, _, _, _, h, h1, h2, h3 => ⟨h.1, h.2.1, h.2.2.1, form_snoc h.2.2.2 h1 h2 h3⟩
theorem form_up : ∀ {i : List Rn} {l : Int} {x y : Rn}, form l (i ++ [x]) → y.lo = x.lo → x.hi ≤ y.hi → y.hi ≤ 1000000000 → form l (i ++ [y])
 | [], _, _, _, h, h1, h2, h3 => ⟨by have := h.1; omega, by have := h.2.1; omega, h3, trivial⟩
 | _ :: _, _, _, _, h, h1, h2, h3 => ⟨h.1, h.2.1, h.2.2.1, form_up h.2.2.2 h1 h2 h3⟩
theorem form_last : ∀ {i : List Rn} {l : Int} {x : Rn}, form l (i ++ [x]) → l ≤ x.lo ∧ x.lo ≤ x.hi ∧ x.hi ≤ 1000000000
 | [], _, _, h => ⟨h.1, h.2.1, h.2.2.1⟩
 | r :: i, l, x, h => by have := form_last h.2.2.2; have := h.1; have := h.2.1; omega
def clip (r : Rn) : Rn := ⟨max r.lo 1, min r.hi 1000000000⟩
def clips (a : List Rn) : List Rn := (a.map clip).filter (fun c => decide (c.lo ≤ c.hi))
theorem clips_mem (a : List Rn) (n : Int) : mem (clips a) n ↔ mem a n := by
 constructor
 ·rintro ⟨h1, h2, x, hx, h3⟩
  obtain ⟨hm, _⟩ := List.mem_filter.1 hx
  obtain ⟨r, hr, rfl⟩ := List.mem_map.1 hm
  unfold clip at h3
  exact ⟨h1, h2, r, hr, by simp at h3; omega, by simp at h3; omega⟩
 ·rintro ⟨h1, h2, r, hr, h3⟩
  have hc : (clip r).lo ≤ n ∧ n ≤ (clip r).hi := by unfold clip; simp; omega
  exact ⟨h1, h2, clip r, List.mem_filter.2 ⟨List.mem_map.2 ⟨r, hr, rfl⟩, decide_eq_true (by omega)⟩, hc⟩
theorem clips_in (a : List Rn) (x : Rn) (h : x ∈ clips a) : 1 ≤ x.lo ∧ x.lo ≤ x.hi ∧ x.hi ≤ 1000000000 := by
 obtain ⟨hm, hd⟩ := List.mem_filter.1 h
 obtain ⟨r, _, rfl⟩ := List.mem_map.1 hm
 have := of_decide_eq_true hd
 unfold clip at *
 simp at *
 omega
structure MgInv (P acc : List Rn) : Prop where
 frm : form 1 acc
 mm : ∀ n, mem acc n ↔ mem P n
 low : ∀ x, x ∈ acc → ∃ p, p ∈ P ∧ x.lo = p.lo
theorem MgInv.start : MgInv [] [] := ⟨trivial, fun _ => Iff.rfl, fun x h => by cases h⟩
theorem MgInv.first {P : List Rn} {r : Rn} (h : MgInv P []) (h1 : 1 ≤ r.lo) (h2 : r.lo ≤ r.hi) (h3 : r.hi ≤ 1000000000) : MgInv (P ++ [r]) [r] := by
 refine ⟨⟨h1, h2, h3, trivial⟩, fun n => ?_, fun x hx => ?_⟩
 ·rw [mem_append, ← h.mm n]
  exact ⟨Or.inr, fun e => e.elim (fun e => absurd e (mem_nil n)) id⟩
 ·obtain rfl := List.mem_singleton.1 hx; exact ⟨x, by simp, rfl⟩
theorem MgInv.new {P i : List Rn} {x r : Rn} (h : MgInv P (i ++ [x])) (hg : ¬ r.lo ≤ x.hi + 1) (h2 : r.lo ≤ r.hi) (h3 : r.hi ≤ 1000000000) : MgInv (P ++ [r]) (i ++ [x] ++ [r]) := by
 refine ⟨form_snoc h.frm (by omega) h2 h3, fun n => ?_, fun y hy => ?_⟩
 ·rw [mem_append, mem_append P, h.mm n]
 ·rcases List.mem_append.1 hy with e | e
  ·obtain ⟨p, hp, e⟩ := h.low y e; exact ⟨p, List.mem_append_left _ hp, e⟩
  ·obtain rfl := List.mem_singleton.1 e; exact ⟨y, by simp, rfl⟩
theorem MgInv.join {P i : List Rn} {x r : Rn} (h : MgInv P (i ++ [x])) (hs : ∀ p, p ∈ P → p.lo ≤ r.lo) (hg : r.lo ≤ x.hi + 1) (_ : r.lo ≤ r.hi) (h3 : r.hi ≤ 1000000000) : MgInv (P ++ [r]) (i ++ [⟨x.lo, max x.hi r.hi⟩]) := by
 have hl := form_last h.frm
 have hxr : x.lo ≤ r.lo := by obtain ⟨p, hp, e⟩ := h.low x (by simp); have := hs p hp; omega
 refine ⟨form_up h.frm rfl (by simp; omega) (by simp; omega), fun n => ?_, fun y hy => ?_⟩
 ·have := h.mm n
  rw [mem_append, mem_one] at this
  rw [mem_append, mem_one, mem_append P, mem_one, ← this]
  simp only
  constructor
  ·rintro (e | ⟨e1, e2, e3, e4⟩)
   ·exact Or.inl (Or.inl e)
   ·by_cases c : n ≤ x.hi
    ·exact Or.inl (Or.inr ⟨e1, e2, e3, c⟩)
    ·exact Or.inr ⟨e1, e2, by omega, by omega⟩
  ·rintro ((e | ⟨e1, e2, e3, e4⟩) | ⟨e1, e2, e3, e4⟩)
   ·exact Or.inl e
   ·exact Or.inr ⟨e1, e2, e3, by omega⟩
   ·exact Or.inr ⟨e1, e2, by omega, by omega⟩
 ·rcases List.mem_append.1 hy with e | e
  ·obtain ⟨p, hp, e⟩ := h.low y (List.mem_append_left _ e); exact ⟨p, List.mem_append_left _ hp, e⟩
  ·obtain rfl := List.mem_singleton.1 e
   obtain ⟨p, hp, e⟩ := h.low x (by simp)
   exact ⟨p, List.mem_append_left _ hp, e⟩
end Go.Proofs.YtcnciccljblkfaaGreat
namespace Go.Proofs.YtcnciccljblkfaaGreat
open Go.RowKit

structure Sl where
 ao : Option Addr
 n : Nat
 cap : Nat
 L : List Rn
def tot : List Sl → Nat
 | [] => 0
 | s :: r => s.n + tot r
def cat : List Sl → List Rn
 | [] => []
 | s :: r => s.L ++ cat r
structure CSrc (w : World) (ao : Option Addr) (q : Nat) (X : List Sl) : Prop where
 len : X.length = q
 nil : ao = none → q = 0
 cell : ∀ ad, ao = some ad → ∀ t s, X[t]? = some s → w.cell? (ad.add t) = some (.slice s.ao s.n s.cap)
 src : ∀ s, s ∈ X → RSrc w s.ao s.n s.cap s.L
 big : q ≤ 8796093022207
end Go.Proofs.YtcnciccljblkfaaGreat
namespace Go.Proofs.YtcnciccljblkfaaGreat
open Go.RowKit

structure Sn where
 rep : Int
 lo : Int
 hi : Int
instance : DecidableEq Sn := fun a b => decidable_of_iff (a.rep = b.rep ∧ a.lo = b.lo ∧ a.hi = b.hi) ⟨fun ⟨h1, h2, h3⟩ => by cases a; cases b; simp_all, fun h => by subst h; exact ⟨rfl, rfl, rfl⟩⟩
def sn0 : Sn := ⟨0, 0, 0⟩
instance : Inhabited Sn := ⟨sn0⟩
def SC (s : Sn) : Array Value := #[.int .i64 s.rep, .int .i64 s.lo, .int .i64 s.hi]
abbrev SV (s : Sn) : Value := .agg (SC s)
theorem SC_size (s : Sn) : (SC s).size = 3 := rfl
theorem SC_one (s : Sn) : ∀ v ∈ (SC s).toList, v.oneCell' = true := by
 intro v hv; simp [SC] at hv; rcases hv with rfl | rfl | rfl <;> rfl
theorem cells_SV (s : Sn) : (SV s).cells = SC s := by simp [Value.cells]
theorem zero_SC : (#[.int .i64 0, .int .i64 0, .int .i64 0] : Array Value) = SC sn0 := rfl
theorem fold_SC (s : Sn) : Array.foldl (fun cs x => cs.setIfInBounds x.snd x.fst) (SC sn0) (SC s).zipIdx 0 3 = SC s := rfl
theorem build_SC (x y z : Int) : (((SC sn0).setIfInBounds 0 (.int .i64 x)).setIfInBounds 1 (.int .i64 y)).setIfInBounds 2 (.int .i64 z) = SC ⟨x, y, z⟩ := rfl
structure SnAt (w : World) (p : Addr) (s : Sn) : Prop where
 c0 : w.cell? p = some (.int .i64 s.rep)
 c1 : w.cell? (p.add 1) = some (.int .i64 s.lo)
 c2 : w.cell? (p.add 2) = some (.int .i64 s.hi)
theorem SnAt.on {w w' : World} {p : Addr} {s : Sn} (S : SnAt w p s) (hb : Below w.heap.size w w') : SnAt w' p s := by
 have h0 := World.block_lt_of_cell? _ _ S.c0
 exact ⟨by rw [hb.cell h0]; exact S.c0, by rw [hb.cell (by rw [block_add]; exact h0)]; exact S.c1, by rw [hb.cell (by rw [block_add]; exact h0)]; exact S.c2⟩
def SBox (w : World) (g : Nat) (s : Sn) : Prop := w.heap[g]? = some (.cells (SC s) 76 (0, 0))
theorem SBox.lt {w : World} {g : Nat} {s : Sn} (h : SBox w g s) : g < w.heap.size := (Array.getElem?_eq_some_iff.1 h).1
theorem SBox.at {w : World} {g : Nat} {s : Sn} (h : SBox w g s) : w.cell? ⟨g, 0, none⟩ = some (.int .i64 s.rep) ∧ w.cell? ⟨g, 1, none⟩ = some (.int .i64 s.lo) ∧ w.cell? ⟨g, 2, none⟩ = some (.int .i64 s.hi) := by
 unfold SBox at h
 refine ⟨?_, ?_, ?_⟩ <;> simp [World.cell?, h, SC]
theorem SBox.below {w w' : World} {g : Nat} {s : Sn} (h : SBox w g s) (hb : Below w.heap.size w w') : SBox w' g s := (hb.block g h.lt).trans h
theorem sbox_new (w : World) (s : Sn) : SBox (w.alloc (.cells (SC s) 76)) w.heap.size s := by unfold SBox; rw [heap_alloc_new]
def ldS (v : Value) : Sem Value := Instr.loadAt 76 v
theorem ldS_eq (v : Value) : Instr.loadAt 76 v = ldS v := rfl
def stS (p v : Value) : Sem Unit := Instr.storeAt 76 p v
theorem stS_eq (p v : Value) : Instr.storeAt 76 p v = stS p v := rfl
theorem sizeS : (Tryz.prog.info? 76).map (·.size) = some 3 := by kernel_rfl
theorem infoS3 : (Tryz.prog.info? 76).map (fun i => (i.zero, i.size, i.bytes)) = some (some (.agg #[.int .i64 0, .int .i64 0, .int .i64 0]), 3, 24) := by kernel_rfl
theorem run_ldS {w : World} {p : Addr} {s : Sn} (A : SnAt w p s) : (ldS (.pointer (some p))).run Tryz.prog w = .ok (SV s) w := by
 have hl := run_loadCells_list (P := Tryz.prog) (w := w) p (SC s).toList (fun j v hv => by
  match j, hv with
  | 0, hv => cases hv; rw [add_zero]; exact A.c0
  | 1, hv => cases hv; exact A.c1
  | 2, hv => cases hv; exact A.c2
  | j + 3, hv => simp [SC] at hv)
 unfold ldS
 simp only [Instr.loadAt, Instr.sureAddr, Sem.run_bind, Sem.run_pure, Result.andThen]
 cases hq : Tryz.prog.info? 76 with
 | none => have := sizeS; simp [hq] at this
 | some x =>
  have hs : x.size = 3 := by have := sizeS; simpa [hq] using this
  have hagg : (isAgg 76).run Tryz.prog w = .ok true w := by
   unfold isAgg
   rw [Sem.run_bind, run_underlying Tryz.underlying76 w]
   rfl
  have e2 : (SC s).toList.length = 3 := rfl
  rw [e2] at hl
  simp [loadVar, Sem.run_bind, hagg, sizeOf, typeInfo, hq, hs, hl, SV]
theorem run_stS {w : World} {g : Nat} {s s' : Sn} (A : SBox w g s) : (stS (.pointer (some ⟨g, 0, none⟩)) (SV s')).run Tryz.prog w = .ok () (w.setRow g (SC s')) := by
 unfold stS
 have h := run_storeCells_from (P := Tryz.prog) g 76 (SC s').toList 0 (SC s) w A (by simp [SC]) (SC_one s')
 cases hq : Tryz.prog.info? 76 with
 | none => have := sizeS; simp [hq] at this
 | some x =>
  have hs : x.size = 3 := by have := sizeS; simpa [hq] using this
  simp only [Instr.storeAt, Instr.sureAddr, Sem.run_bind, Sem.run_pure, Result.andThen, storeVar, sizeOf, typeInfo, cells_SV, SC_size]
  simp at h
  simp [h, hq, hs]
theorem madeS (w : World) (s : Sn) (g : Nat) (hg : w.heap.size = g) : ∃ w' : World, (stS (.pointer (some ⟨g, 0, none⟩)) (SV s)).run Tryz.prog (w.alloc (.cells (SC sn0) 76)) = .ok () w' ∧ SBox w' g s ∧ Below w.heap.size w w' ∧ w'.heap.size = w.heap.size + 1 := by
 subst hg
 exact ⟨_, run_stS (sbox_new w sn0), setRow_heap _ _ _ _ _ _ (sbox_new w sn0), below_setRow (below_new w _) (Nat.le_refl _), by simp [World.setRow]⟩
structure SSrc (w : World) (ao : Option Addr) (m c : Nat) (L : List Sn) : Prop where
 len : L.length = m
 nil : ao = none → m = 0 ∧ c = 0
 cell : ∀ ad, ao = some ad → ∀ t, t < m → SnAt w (ad.add (t * 3)) (L.getD t sn0)
 big : m ≤ 5864062014805
 cap : m ≤ c
theorem SSrc.below {w w' : World} {ao : Option Addr} {m c : Nat} {L : List Sn} (h : SSrc w ao m c L) (hb : Below w.heap.size w w') : SSrc w' ao m c L :=
 ⟨h.len, h.nil, fun ad ha t ht => (h.cell ad ha t ht).on hb, h.big, h.cap⟩
theorem SSrc.at {w : World} {ao : Option Addr} {m c : Nat} {L : List Sn} (h : SSrc w ao m c L) (k : Nat) (hk : k < m) : ∃ ad, ao = some ad ∧ SnAt w (ad.add (k * 3)) (L.getD k sn0) := by
 cases ao with
 | none => have := h.nil rfl; omega
 | some ad => exact ⟨ad, rfl, h.cell ad rfl k hk⟩
theorem SSrc.empty (w : World) : SSrc w none 0 0 [] := ⟨rfl, fun _ => ⟨rfl, rfl⟩, (fun ad h => by cases h), by omega, Nat.le_refl _⟩
theorem SSrc.spot {w : World} {ad : Addr} {m c : Nat} {L : List Sn} (h : SSrc w (some ad) m c L) (hm : 0 < m) : ∃ b o, ad = ⟨b, o, none⟩ := by
 have := World.cell?_spot (h.cell ad rfl 0 hm).c0
 obtain ⟨b, o, s⟩ := ad
 have hs : s = none := by simpa [Addr.add] using this
 exact ⟨b, o, by rw [hs]⟩
theorem SSrc.off {w w' : World} {ao : Option Addr} {m c : Nat} {L : List Sn} (h : SSrc w ao m c L) (hk : ∀ ad, ao = some ad → w'.heap[ad.block]? = w.heap[ad.block]?) : SSrc w' ao m c L := by
 refine ⟨h.len, h.nil, fun ad ha t ht => ?_, h.big, h.cap⟩
 have A := h.cell ad ha t ht
 have e : ∀ m, w'.cell? (ad.add m) = w.cell? (ad.add m) := fun m => by unfold World.cell?; rw [block_add, hk ad ha]
 exact ⟨by rw [e]; exact A.c0, by have := A.c1; rw [add_add] at this ⊢; rw [e]; exact this, by have := A.c2; rw [add_add] at this ⊢; rw [e]; exact this⟩
def scs (L : List Sn) : List Value := (L.map (fun r => (SC r).toList)).flatten
theorem scs_append (L R : List Sn) : scs (L ++ R) = scs L ++ scs R := by simp [scs]
theorem scs_one (r : Sn) : scs [r] = (SC r).toList := by simp [scs]
theorem scs_at (L : List Sn) (t j : Nat) (ht : t < L.length) (hj : j < 3) : (scs L)[t * 3 + j]? = (SC (L.getD t sn0)).toList[j]? := by
 induction L generalizing t with
 | nil => simp at ht
 | cons a L ih =>
  have e : scs (a :: L) = (SC a).toList ++ scs L := rfl
  cases t with
  | zero => rw [e, List.getElem?_append_left (by simp [SC]; omega)]; simp [List.getD]
  | succ t =>
   rw [e, List.getElem?_append_right (by simp [SC]; omega)]
   have h := ih t (by simpa using ht)
   have e4 : (t + 1) * 3 + j - (SC a).toList.length = t * 3 + j := by simp [SC]; omega
   rw [e4, h]; simp [List.getD]
structure OwnS (B0 B : Nat) (w w' : World) (ao : Option Addr) (cap : Nat) (acc : List Sn) : Prop where
 own : w'.ownsRow B 76 3 (.slice ao acc.length cap) acc.length (scs acc)
 below : Below B0 w w'
 hB : B ≤ w'.heap.size
 hB0 : B0 ≤ B
theorem OwnS.nil {B0 B : Nat} {w w' : World} (hb : Below B0 w w') (hB : B ≤ w'.heap.size) (h0 : B0 ≤ B) : OwnS B0 B w w' none 0 [] :=
 ⟨World.ownsRow_nil _ _ _ _, hb, hB, h0⟩
theorem OwnS.append {B0 B : Nat} {w w' : World} {ao : Option Addr} {cap : Nat} {acc : List Sn} (O : OwnS B0 B w w' ao cap acc) (e : Sn) (C : Array Value) (hC : C = SC e) (hlen : acc.length < 5864062014805)
  {ops : Array Oper} {rest : List Oper} {o : Oper} {a : Act} {Q : Exit → Act → World → Prop} (hgd : o.guard = none) (s x : Operand) (ho : o.op = .call { callee := .builtin .append, args := #[s, x], argTypes := #[24, 24] })
  (n : Nat) (hn : acc.length = n) (hs : a.eval s = .slice ao n cap) (hx : a.eval x = .slice (some ⟨w'.heap.size, 0, none⟩) 1 1)
  (hK : ∀ (g cap2 : Nat) (w2 : World), OwnS B0 B w w2 (some ⟨g, 0, none⟩) cap2 (acc ++ [e]) → (∀ k, k < w'.heap.size → (Value.slice ao acc.length cap).ownBlock ≠ some k → w2.heap[k]? = w'.heap[k]? ∧ g ≠ k) → wpList Tryz.prog ops Q rest (a.put o.dst (.slice (some ⟨g, 0, none⟩) (n + 1) cap2)) w2) :
  wpList Tryz.prog ops Q (o :: rest) a (w'.alloc (.cells C 76)) := by
 subst hn hC
 obtain ⟨i0, hi, hz0, hz1, hz2⟩ := info_parts infoS3
 have hB := O.hB
 have hB0 := O.hB0
 refine wpList_append_own_at _ hgd s x 24 ho B 76 i0 (.agg #[.int .i64 0, .int .i64 0, .int .i64 0]) 3 24 Tryz.underlying24 hi hz0 hz1 hz2 rfl (by decide) _ acc.length (scs acc) hs (O.own.alloc _) ⟨w'.heap.size, 0, none⟩ 1 1 (SC e).toList hx (by simp [SC]) ?_ ?_ (by unfold maxLen; omega) (by omega) (by simp; omega) ?_
 ·intro j u hj
  rw [Addr.add_lit, Nat.zero_add, World.cell?_alloc_new]
  simpa using hj
 ·intro u hu
  exact SC_one e u hu
 ·intro v' w2 hown hgrow _ hat
  rcases hown.2 with ⟨h0, h00⟩ | ⟨g, cap2, cur, hv, r⟩
  ·omega
  ·subst hv
   have hrow : ∀ k, (Value.slice ao acc.length cap).ownBlock = some k → B ≤ k := fun k hk => (O.own.lt k hk).1
   have hsz := hgrow.size
   rw [World.size_alloc] at hsz
   refine hK g cap2 w2 ⟨?_, (O.below.alloc (by omega) _).grown hgrow (by simp; omega) (fun k hk => by have := hrow k hk; omega), by omega, hB0⟩ (fun k hk hne => ?_)
   ·rw [List.length_append, scs_append, scs_one]; exact hown
   ·refine ⟨?_, fun e => ?_⟩
    ·rw [hgrow.block k (by simp; omega) (fun e => hne e.symm)]
     exact Below.heap_alloc _ _ _ hk
    ·rcases hat with h | h
     ·exact hne (by rw [← h, ← e]; rfl)
     ·simp [Value.ownBlock] at h; omega
theorem OwnS.later {B0 B : Nat} {w w' w2 : World} {ao : Option Addr} {cap : Nat} {acc : List Sn} (O : OwnS B0 B w w' ao cap acc) (hb : Below w'.heap.size w' w2) : OwnS B0 B w w2 ao cap acc := by
 refine ⟨⟨O.own.1, ?_⟩, O.below.trans (hb.mono (Nat.le_trans O.hB0 O.hB)), Nat.le_trans O.hB hb.size, O.hB0⟩
 rcases O.own.2 with h | ⟨g, cap2, cur, hv, hbg, hgg, r⟩
 ·exact Or.inl h
 ·exact Or.inr ⟨g, cap2, cur, hv, hbg, (hb.block g (Array.getElem?_eq_some_iff.1 hgg).1).trans hgg, r⟩
theorem OwnS.src {B0 B : Nat} {w w' : World} {ao : Option Addr} {cap : Nat} {acc : List Sn} (O : OwnS B0 B w w' ao cap acc) (hl : acc.length ≤ 5864062014805) : SSrc w' ao acc.length cap acc ∧ ∀ ad, ao = some ad → B ≤ ad.block := by
 rcases O.own.2 with ⟨h0, h00⟩ | ⟨g, cap2, cur, hv, hbg, hgg, hnc, hcm, hcsz, htake⟩
 ·simp only [Value.slice.injEq] at h0
  obtain ⟨rfl, e0, rfl⟩ := h0
  exact ⟨⟨rfl, fun _ => ⟨h00, rfl⟩, (fun ad h => by cases h), hl, by omega⟩, fun ad h => (by cases h)⟩
 ·simp only [Value.slice.injEq, true_and] at hv
  obtain ⟨rfl, rfl⟩ := hv
  have cell : ∀ t j, t < acc.length → j < 3 → w'.cell? ⟨g, t * 3 + j, none⟩ = (SC (acc.getD t sn0)).toList[j]? := fun t j ht hj => by
   rw [O.own.cellAt (t * 3 + j) (by omega), scs_at _ t j ht hj]
  refine ⟨⟨rfl, fun h => (by cases h), fun ad h t ht => ?_, hl, hnc⟩, fun ad h => by obtain rfl := Option.some.inj h; exact hbg⟩
  obtain rfl := Option.some.inj h
  refine ⟨?_, ?_, ?_⟩
  ·rw [Addr.add_lit, Nat.zero_add]; exact cell t 0 ht (by omega)
  ·rw [Addr.add_lit, Addr.add_lit, Nat.zero_add]; exact cell t 1 ht (by omega)
  ·rw [Addr.add_lit, Addr.add_lit, Nat.zero_add]; exact cell t 2 ht (by omega)
structure Pst where
 vec : List Int
 cloud : List Sn
instance : DecidableEq Pst := fun a b => decidable_of_iff (a.vec = b.vec ∧ a.cloud = b.cloud) ⟨fun ⟨h1, h2⟩ => by cases a; cases b; simp_all, fun h => by subst h; exact ⟨rfl, rfl⟩⟩
structure Pv where
 vo : Option Addr
 vn : Nat
 vc : Nat
 co : Option Addr
 cn : Nat
 cc : Nat
 P : Pst
def PC (p : Pv) : Array Value := #[.slice p.vo p.vn p.vc, .slice p.co p.cn p.cc]
abbrev PV (p : Pv) : Value := .agg (PC p)
def pv0 : Pv := ⟨none, 0, 0, none, 0, 0, ⟨[], []⟩⟩
theorem PC_size (p : Pv) : (PC p).size = 2 := rfl
theorem PC_one (p : Pv) : ∀ v ∈ (PC p).toList, v.oneCell' = true := by
 intro v hv; simp [PC] at hv; rcases hv with rfl | rfl <;> rfl
theorem cells_PV (p : Pv) : (PV p).cells = PC p := by simp [Value.cells]
theorem zero_PC : (#[.slice none 0 0, .slice none 0 0] : Array Value) = PC pv0 := rfl
theorem fold_PC (p : Pv) : Array.foldl (fun cs x => cs.setIfInBounds x.snd x.fst) (PC pv0) (PC p).zipIdx 0 2 = PC p := rfl
structure PSrc (w : World) (p : Pv) : Prop where
 vec : V.Src w p.vo p.vn p.vc p.P.vec
 cloud : SSrc w p.co p.cn p.cc p.P.cloud
 big : p.vn ≤ 17592186044415
theorem PSrc.below {w w' : World} {p : Pv} (h : PSrc w p) (hb : Below w.heap.size w w') : PSrc w' p := ⟨h.vec.below hb, h.cloud.below hb, h.big⟩
theorem PSrc.zero (w : World) : PSrc w pv0 := ⟨⟨rfl, fun _ => ⟨rfl, rfl⟩, fun ad h => (by cases h)⟩, SSrc.empty w, by simp [pv0]⟩
structure PAt (w : World) (a : Addr) (p : Pv) : Prop where
 c0 : w.cell? a = some (.slice p.vo p.vn p.vc)
 c1 : w.cell? (a.add 1) = some (.slice p.co p.cn p.cc)
theorem PAt.on {w w' : World} {a : Addr} {p : Pv} (S : PAt w a p) (hb : Below w.heap.size w w') : PAt w' a p := by
 have h0 := World.block_lt_of_cell? _ _ S.c0
 exact ⟨by rw [hb.cell h0]; exact S.c0, by rw [hb.cell (by rw [block_add]; exact h0)]; exact S.c1⟩
def PBox (w : World) (g : Nat) (p : Pv) : Prop := w.heap[g]? = some (.cells (PC p) 26 (0, 0))
theorem PBox.lt {w : World} {g : Nat} {p : Pv} (h : PBox w g p) : g < w.heap.size := (Array.getElem?_eq_some_iff.1 h).1
theorem PBox.at {w : World} {g : Nat} {p : Pv} (h : PBox w g p) : PAt w ⟨g, 0, none⟩ p := by
 unfold PBox at h
 refine ⟨?_, ?_⟩ <;> simp [Addr.add, World.cell?, h, PC]
theorem PBox.nums {w : World} {g : Nat} {p : Pv} (h : PBox w g p) : w.cell? ⟨g, 0, none⟩ = some (.slice p.vo p.vn p.vc) ∧ w.cell? ⟨g, 1, none⟩ = some (.slice p.co p.cn p.cc) := by
 unfold PBox at h
 refine ⟨?_, ?_⟩ <;> simp [World.cell?, h, PC]
theorem PBox.below {w w' : World} {g : Nat} {p : Pv} (h : PBox w g p) (hb : Below w.heap.size w w') : PBox w' g p := (hb.block g h.lt).trans h
theorem pbox_new (w : World) (p : Pv) : PBox (w.alloc (.cells (PC p) 26)) w.heap.size p := by unfold PBox; rw [heap_alloc_new]
def ldP (v : Value) : Sem Value := Instr.loadAt 26 v
theorem ldP_eq (v : Value) : Instr.loadAt 26 v = ldP v := rfl
def stP (p v : Value) : Sem Unit := Instr.storeAt 26 p v
theorem stP_eq (p v : Value) : Instr.storeAt 26 p v = stP p v := rfl
theorem sizeP : (Tryz.prog.info? 26).map (·.size) = some 2 := by kernel_rfl
theorem run_lvP {w : World} {a : Addr} {p : Pv} (A : PAt w a p) : (loadVar 26 a).run Tryz.prog w = .ok (PV p) w := by
 have hl := run_loadCells_list (P := Tryz.prog) (w := w) a (PC p).toList (fun j v hv => by
  match j, hv with
  | 0, hv => cases hv; rw [add_zero]; exact A.c0
  | 1, hv => cases hv; exact A.c1
  | j + 2, hv => simp [PC] at hv)
 cases hq : Tryz.prog.info? 26 with
 | none => have := sizeP; simp [hq] at this
 | some x =>
  have hs : x.size = 2 := by have := sizeP; simpa [hq] using this
  have hagg : (isAgg 26).run Tryz.prog w = .ok true w := by
   unfold isAgg
   rw [Sem.run_bind, run_underlying Tryz.underlying26 w]
   rfl
  have e2 : (PC p).toList.length = 2 := rfl
  rw [e2] at hl
  simp [loadVar, Sem.run_bind, hagg, sizeOf, typeInfo, hq, hs, hl, PV]
theorem run_ldP {w : World} {a : Addr} {p : Pv} (A : PAt w a p) : (ldP (.pointer (some a))).run Tryz.prog w = .ok (PV p) w := by
 unfold ldP
 simp only [Instr.loadAt, Instr.sureAddr, Sem.run_bind, Sem.run_pure, Result.andThen]
 exact run_lvP A
theorem run_stP {w : World} {g : Nat} {p p' : Pv} (A : PBox w g p) : (stP (.pointer (some ⟨g, 0, none⟩)) (PV p')).run Tryz.prog w = .ok () (w.setRow g (PC p')) := by
 unfold stP
 have h := run_storeCells_from (P := Tryz.prog) g 26 (PC p').toList 0 (PC p) w A (by simp [PC]) (PC_one p')
 cases hq : Tryz.prog.info? 26 with
 | none => have := sizeP; simp [hq] at this
 | some x =>
  have hs : x.size = 2 := by have := sizeP; simpa [hq] using this
  simp only [Instr.storeAt, Instr.sureAddr, Sem.run_bind, Sem.run_pure, Result.andThen, storeVar, sizeOf, typeInfo, cells_PV, PC_size]
  simp at h
  simp [h, hq, hs]
theorem madeP (w : World) (p : Pv) (g : Nat) (hg : w.heap.size = g) : ∃ w' : World, (stP (.pointer (some ⟨g, 0, none⟩)) (PV p)).run Tryz.prog (w.alloc (.cells (PC pv0) 26)) = .ok () w' ∧ PBox w' g p ∧ Below w.heap.size w w' ∧ w'.heap.size = w.heap.size + 1 := by
 subst hg
 exact ⟨_, run_stP (pbox_new w pv0), setRow_heap _ _ _ _ _ _ (pbox_new w pv0), below_setRow (below_new w _) (Nat.le_refl _), by simp [World.setRow]⟩
theorem resP {fn : Func} {t : Tmp} {w : World} {g : Nat} {p : Pv} (h : fn.results = #[.cell t 26]) {tmps : Array Value} (hp : tmps.getD t undef = .pointer (some ⟨g, 0, none⟩)) (A : PBox w g p) : (results fn tmps).run Tryz.prog w = .ok (PV p) w := by
 have hl := run_lvP A.at
 simp only [results, h]
 rw [Array.getD_eq_getD_getElem?] at hp
 simp [hp, asAddr, hl]
structure PRow (w : World) (ao : Option Addr) (q : Nat) (X : List Pv) : Prop where
 len : X.length = q
 nil : ao = none → q = 0
 cell : ∀ ad, ao = some ad → ∀ t p, X[t]? = some p → PAt w (ad.add (t * 2)) p
 src : ∀ p, p ∈ X → PSrc w p
theorem PRow.below {w w' : World} {ao : Option Addr} {q : Nat} {X : List Pv} (h : PRow w ao q X) (hb : Below w.heap.size w w') : PRow w' ao q X :=
 ⟨h.len, h.nil, fun ad ha t p hs => (h.cell ad ha t p hs).on hb, fun p hp => (h.src p hp).below hb⟩
theorem PRow.at {w : World} {ao : Option Addr} {q : Nat} {X : List Pv} (h : PRow w ao q X) (k : Nat) (hk : k < q) : ∃ ad p, ao = some ad ∧ X[k]? = some p ∧ PAt w (ad.add (k * 2)) p ∧ PSrc w p := by
 have hk' : k < X.length := by rw [h.len]; exact hk
 cases ao with
 | none => have := h.nil rfl; omega
 | some ad => exact ⟨ad, X[k], rfl, List.getElem?_eq_getElem hk', h.cell ad rfl k _ (List.getElem?_eq_getElem hk'), h.src _ (List.getElem_mem hk')⟩
def pcs (X : List Pv) : List Value := (X.map (fun p => (PC p).toList)).flatten
theorem pcs_at (L : List Pv) (t j : Nat) (p : Pv) (ht : L[t]? = some p) (hj : j < 2) : (pcs L)[t * 2 + j]? = (PC p).toList[j]? := by
 induction L generalizing t with
 | nil => simp at ht
 | cons a L ih =>
  have e : pcs (a :: L) = (PC a).toList ++ pcs L := rfl
  cases t with
  | zero => simp at ht; subst ht; rw [e, List.getElem?_append_left (by simp [PC]; omega)]; simp
  | succ t =>
   rw [e, List.getElem?_append_right (by simp [PC]; omega)]
   have h := ih t (by simpa using ht)
   have e4 : (t + 1) * 2 + j - (PC a).toList.length = t * 2 + j := by simp [PC]; omega
   rw [e4, h]
theorem prow_lit (W : World) (g : Nat) (X : List Pv) (C : Array Value) (hC : C = (pcs X).toArray) (T : TypeId) (n : Nat) (hl : X.length = n) (hg : W.heap[g]? = some (.cells C T (0, 0))) (hs : ∀ p, p ∈ X → PSrc W p) : PRow W (some ⟨g, 0, none⟩) n X := by
 subst hC
 have cell : ∀ t j p, X[t]? = some p → j < 2 → W.cell? ⟨g, t * 2 + j, none⟩ = (PC p).toList[j]? := by
  intro t j p ht hj
  simp only [World.cell?, hg]
  simp [pcs_at X t j p ht hj]
 refine ⟨hl, fun h => (by cases h), fun ad h t p ht => ?_, hs⟩
 obtain rfl := Option.some.inj h
 refine ⟨?_, ?_⟩
 ·rw [Addr.add_lit, Nat.zero_add]; exact cell t 0 p ht (by omega)
 ·rw [Addr.add_lit, Addr.add_lit, Nat.zero_add]; exact cell t 1 p ht (by omega)
end Go.Proofs.YtcnciccljblkfaaGreat

